/- Helpers: the law SampleEnergies. No condition but the hypotheses that each theorem names. -/
import Derived.Test.YtpkacfgmojblbaaB40
import Derived.Test.YtpkacfgmojblbaaB38
namespace Go.Proofs.Ytpkacfgmojblbaa
open Go.RowKit
attribute [local go_sem] old1 fro1 old2 fro2 old3 fro3 old4 fro4 old5 fro5 old6 fro6 old7 fro7 old8 fro8 old9 fro9 old10 fro10 old11 fro11 old12 fro12
def qn0 : List Bool := [false, false, false, false, false, false, false, false, false, false, false, false, false, false, false, false, true, true, false, false, false, false, false, false, false, false, false, false, false, false, false, false, false, false, false, false, false, false, false, false, false, false, false, false, false, false, false, false, false, false, false, false, false, false, false, false, false, false, false, false, false, false, false, false, false, false, false, false, false, false, false, false, false, false, false, false, false, false, false, false, false, false, false, false, false, false, false, false, false, false, false, false, false, false, false, false, true, true, true, true, true, true, true, false, false, false, false, false, false, false, false, false, false, false, false, false, false, false, false, false, false, false, false, false, false, false, false, false, false, false, false, false, false]
theorem ga_arr {w : World} {b : Nat} {h : Nat → Int × Int} (H : IM w b 8 (flt h)) : GA w (some ⟨b, 0, none⟩) 4 h := IM.ga (n := 4) H
theorem gs_arr {w : World} {b : Nat} {h : Nat → Int × Int} (H : IM w b 8 (flt h)) : GS w (.slice (some ⟨b, 0, none⟩) 4 4) 4 h := ⟨_, _, rfl, ga_arr H, fun e => by cases e⟩
/-- the sum of the norms of the first bins -/
def nS (h : Nat → Int × Int) : Nat → Int
  | 0 => 0
  | k + 1 => nS h k + nrm (h k)
theorem nS_4 (h : Nat → Int × Int) : nS (sB h) 4 = 4 * enS h 4 := by
  have := sB_nrm h
  simp only [nS]
  omega
theorem nS_bd {h : Nat → Int × Int} (hb : ∀ k, (-8000 ≤ (h k).1 ∧ (h k).1 ≤ 8000) ∧ -8000 ≤ (h k).2 ∧ (h k).2 ≤ 8000) : ∀ k, 0 ≤ nS h k ∧ nS h k ≤ 128000000 * k
  | 0 => by simp [nS]
  | k + 1 => by
    have ih := nS_bd hb k
    have h1 := nrm_bd (hb k)
    simp only [nS]
    omega
set_option maxRecDepth 100000 in
set_option maxHeartbeats 4000000 in
theorem se_c (h : Nat → Int × Int) (A : Option Addr) (n c : Nat) (_ : Nat → Int × Int) (q : Int) (w : World) (h60 : 60 < n) :
    Calls Try.prog 13 #[.agg (arr (flt h)), .slice A n c, .int .i64 q] w fun e w' => e = .returned (.bool true) ∧ Below w.heap.size w w' := by
  have h61 : (n : Int) > 60 := by omega
  go_enter Try.func13, Try.ntmps13
  go_wp2_with (first
    | (go_at_call 17; (with_reducible refine Calls.mono (awake_any _) ?_); rintro e yx ⟨rfl, hbx⟩; (try replace p0 := keep hbx p0); (try replace p1 := keep hbx p1); (try replace l0 := keep hbx l0); (try replace l1 := keep hbx l1); (try replace l2 := keep hbx l2); (try replace HM3 := Lib.hid (HM3.out.on hbx)); (try replace HM7 := Lib.hid (HM7.out.on hbx)); (try replace HM13 := Lib.hid (HM13.out.on hbx)); (try replace TC := Lib.hid (TC.out.bel hbx)); (try replace T16 := Lib.hid (T16.out.bel hbx)); (first | replace BV := Lib.hid (belowT (show Below w.heap.size w _ by have Bq := BV.out; have Bz := Bq.size; (repeat (first | with_reducible exact Below.refl _ _ | with_reducible assumption | with_reducible refine Below.alloc ?_ (by first | (simp; done) | (simp; omega) | omega) _ | with_reducible refine Below.setCell ?_ (by first | (simp; done) | (simp; omega) | omega) _ | with_reducible refine Below.drew ?_ | with_reducible refine below_drewN ?_ _))) hbx) | have BV := Lib.hid (belowT (show Below w.heap.size w _ by (repeat (first | with_reducible exact Below.refl _ _ | with_reducible assumption | with_reducible refine Below.alloc ?_ (by first | (simp; done) | (simp; omega) | omega) _ | with_reducible refine Below.setCell ?_ (by first | (simp; done) | (simp; omega) | omega) _ | with_reducible refine Below.drew ?_ | with_reducible refine below_drewN ?_ _))) hbx)); have HM3 : Hid (IM yx w.heap.size 8 (flt h)) := Lib.hid (IM.on (arr_im w (flt h) 102) hbx); clear hbx))
  go_ret
  exact ⟨rfl, BV.out⟩
set_option maxRecDepth 100000 in
set_option maxHeartbeats 4000000 in
theorem se_f (h : Nat → Int × Int) (A : Option Addr) (n c : Nat) (_ : Nat → Int × Int) (q : Int) (F : Int) (F0 : F ≠ 0) (w : World) (hn : n ≤ 60) (hF : smE 4 h = F) :
    Calls Try.prog 13 #[.agg (arr (flt h)), .slice A n c, .int .i64 q] w fun e w' => e = .returned (.bool true) ∧ Below w.heap.size w w' := by
  have h61 : ¬ (n : Int) > 60 := by omega
  have HS4 := Lib.hid (fun W b (H : GA W (some ⟨b, 0, none⟩) 4 h) => samplesErr_any (some ⟨b, 0, none⟩) 4 4 h W (by omega) H)
  have F2 : (F != 0) = true := by simpa using F0
  rw [hF] at HS4
  clear hF F0
  go_enter Try.func13, Try.ntmps13
  go_wp2_with (first
    | (go_at_call 17; (with_reducible refine Calls.mono (awake_any _) ?_); rintro e yx ⟨rfl, hbx⟩; (try replace p0 := keep hbx p0); (try replace p1 := keep hbx p1); (try replace l0 := keep hbx l0); (try replace l1 := keep hbx l1); (try replace l2 := keep hbx l2); (try replace HM3 := Lib.hid (HM3.out.on hbx)); (try replace HM7 := Lib.hid (HM7.out.on hbx)); (try replace HM13 := Lib.hid (HM13.out.on hbx)); (try replace TC := Lib.hid (TC.out.bel hbx)); (try replace T16 := Lib.hid (T16.out.bel hbx)); (first | replace BV := Lib.hid (belowT (show Below w.heap.size w _ by have Bq := BV.out; have Bz := Bq.size; (repeat (first | with_reducible exact Below.refl _ _ | with_reducible assumption | with_reducible refine Below.alloc ?_ (by first | (simp; done) | (simp; omega) | omega) _ | with_reducible refine Below.setCell ?_ (by first | (simp; done) | (simp; omega) | omega) _ | with_reducible refine Below.drew ?_ | with_reducible refine below_drewN ?_ _))) hbx) | have BV := Lib.hid (belowT (show Below w.heap.size w _ by (repeat (first | with_reducible exact Below.refl _ _ | with_reducible assumption | with_reducible refine Below.alloc ?_ (by first | (simp; done) | (simp; omega) | omega) _ | with_reducible refine Below.setCell ?_ (by first | (simp; done) | (simp; omega) | omega) _ | with_reducible refine Below.drew ?_ | with_reducible refine below_drewN ?_ _))) hbx)); have HM3 : Hid (IM yx w.heap.size 8 (flt h)) := Lib.hid (IM.on (arr_im w (flt h) 102) hbx); clear hbx)
    | (go_at_call 53; (with_reducible refine Calls.mono (HS4.out _ _ (ga_arr HM3.out)) ?_); rintro e yx ⟨rfl, hbx⟩; (try replace p0 := keep hbx p0); (try replace p1 := keep hbx p1); (try replace l0 := keep hbx l0); (try replace l1 := keep hbx l1); (try replace l2 := keep hbx l2); (try replace HM3 := Lib.hid (HM3.out.on hbx)); (try replace HM7 := Lib.hid (HM7.out.on hbx)); (try replace HM13 := Lib.hid (HM13.out.on hbx)); (try replace TC := Lib.hid (TC.out.bel hbx)); (try replace T16 := Lib.hid (T16.out.bel hbx)); (first | replace BV := Lib.hid (belowT (show Below w.heap.size w _ by have Bq := BV.out; have Bz := Bq.size; (repeat (first | with_reducible exact Below.refl _ _ | with_reducible assumption | with_reducible refine Below.alloc ?_ (by first | (simp; done) | (simp; omega) | omega) _ | with_reducible refine Below.setCell ?_ (by first | (simp; done) | (simp; omega) | omega) _ | with_reducible refine Below.drew ?_ | with_reducible refine below_drewN ?_ _))) hbx) | have BV := Lib.hid (belowT (show Below w.heap.size w _ by (repeat (first | with_reducible exact Below.refl _ _ | with_reducible assumption | with_reducible refine Below.alloc ?_ (by first | (simp; done) | (simp; omega) | omega) _ | with_reducible refine Below.setCell ?_ (by first | (simp; done) | (simp; omega) | omega) _ | with_reducible refine Below.drew ?_ | with_reducible refine below_drewN ?_ _))) hbx)); clear hbx))
  go_ret
  exact ⟨rfl, BV.out⟩
set_option maxRecDepth 100000 in
set_option maxHeartbeats 4000000 in
theorem se_d (h : Nat → Int × Int) (A : Option Addr) (n c : Nat) (g : Nat → Int × Int) (q : Int) (D : Int) (D0 : D ≠ 0) (w : World) (hn : n ≤ 60) (hF : smE 4 h = 0) (hD : smE n g = D) (hA : GA w A n g) :
    Calls Try.prog 13 #[.agg (arr (flt h)), .slice A n c, .int .i64 q] w fun e w' => e = .returned (.bool true) ∧ Below w.heap.size w w' := by
  have h61 : ¬ (n : Int) > 60 := by omega
  have HS4 := Lib.hid (fun W b (H : GA W (some ⟨b, 0, none⟩) 4 h) => samplesErr_any (some ⟨b, 0, none⟩) 4 4 h W (by omega) H)
  have HSX := Lib.hid (fun W (hW : Below w.heap.size w W) => samplesErr_any A n c g W (by omega) (hA.bel hW))
  have D2 : (D != 0) = true := by simpa using D0
  rw [hF] at HS4
  rw [hD] at HSX
  clear hF hD D0 hA
  go_enter Try.func13, Try.ntmps13
  go_wp2_with (first
    | (go_at_call 17; (with_reducible refine Calls.mono (awake_any _) ?_); rintro e yx ⟨rfl, hbx⟩; (try replace p0 := keep hbx p0); (try replace p1 := keep hbx p1); (try replace l0 := keep hbx l0); (try replace l1 := keep hbx l1); (try replace l2 := keep hbx l2); (try replace HM3 := Lib.hid (HM3.out.on hbx)); (try replace HM7 := Lib.hid (HM7.out.on hbx)); (try replace HM13 := Lib.hid (HM13.out.on hbx)); (try replace TC := Lib.hid (TC.out.bel hbx)); (try replace T16 := Lib.hid (T16.out.bel hbx)); (first | replace BV := Lib.hid (belowT (show Below w.heap.size w _ by have Bq := BV.out; have Bz := Bq.size; (repeat (first | with_reducible exact Below.refl _ _ | with_reducible assumption | with_reducible refine Below.alloc ?_ (by first | (simp; done) | (simp; omega) | omega) _ | with_reducible refine Below.setCell ?_ (by first | (simp; done) | (simp; omega) | omega) _ | with_reducible refine Below.drew ?_ | with_reducible refine below_drewN ?_ _))) hbx) | have BV := Lib.hid (belowT (show Below w.heap.size w _ by (repeat (first | with_reducible exact Below.refl _ _ | with_reducible assumption | with_reducible refine Below.alloc ?_ (by first | (simp; done) | (simp; omega) | omega) _ | with_reducible refine Below.setCell ?_ (by first | (simp; done) | (simp; omega) | omega) _ | with_reducible refine Below.drew ?_ | with_reducible refine below_drewN ?_ _))) hbx)); have HM3 : Hid (IM yx w.heap.size 8 (flt h)) := Lib.hid (IM.on (arr_im w (flt h) 102) hbx); clear hbx)
    | (go_at_call 53; (with_reducible refine Calls.mono (HS4.out _ _ (ga_arr HM3.out)) ?_); rintro e yx ⟨rfl, hbx⟩; (try replace p0 := keep hbx p0); (try replace p1 := keep hbx p1); (try replace l0 := keep hbx l0); (try replace l1 := keep hbx l1); (try replace l2 := keep hbx l2); (try replace HM3 := Lib.hid (HM3.out.on hbx)); (try replace HM7 := Lib.hid (HM7.out.on hbx)); (try replace HM13 := Lib.hid (HM13.out.on hbx)); (try replace TC := Lib.hid (TC.out.bel hbx)); (try replace T16 := Lib.hid (T16.out.bel hbx)); (first | replace BV := Lib.hid (belowT (show Below w.heap.size w _ by have Bq := BV.out; have Bz := Bq.size; (repeat (first | with_reducible exact Below.refl _ _ | with_reducible assumption | with_reducible refine Below.alloc ?_ (by first | (simp; done) | (simp; omega) | omega) _ | with_reducible refine Below.setCell ?_ (by first | (simp; done) | (simp; omega) | omega) _ | with_reducible refine Below.drew ?_ | with_reducible refine below_drewN ?_ _))) hbx) | have BV := Lib.hid (belowT (show Below w.heap.size w _ by (repeat (first | with_reducible exact Below.refl _ _ | with_reducible assumption | with_reducible refine Below.alloc ?_ (by first | (simp; done) | (simp; omega) | omega) _ | with_reducible refine Below.setCell ?_ (by first | (simp; done) | (simp; omega) | omega) _ | with_reducible refine Below.drew ?_ | with_reducible refine below_drewN ?_ _))) hbx)); clear hbx)
    | (go_at_call 53; (with_reducible refine Calls.mono (HSX.out _ BV.out) ?_); rintro e yx ⟨rfl, hbx⟩; (try replace p0 := keep hbx p0); (try replace p1 := keep hbx p1); (try replace l0 := keep hbx l0); (try replace l1 := keep hbx l1); (try replace l2 := keep hbx l2); (try replace HM3 := Lib.hid (HM3.out.on hbx)); (try replace HM7 := Lib.hid (HM7.out.on hbx)); (try replace HM13 := Lib.hid (HM13.out.on hbx)); (try replace TC := Lib.hid (TC.out.bel hbx)); (try replace T16 := Lib.hid (T16.out.bel hbx)); (first | replace BV := Lib.hid (belowT (show Below w.heap.size w _ by have Bq := BV.out; have Bz := Bq.size; (repeat (first | with_reducible exact Below.refl _ _ | with_reducible assumption | with_reducible refine Below.alloc ?_ (by first | (simp; done) | (simp; omega) | omega) _ | with_reducible refine Below.setCell ?_ (by first | (simp; done) | (simp; omega) | omega) _ | with_reducible refine Below.drew ?_ | with_reducible refine below_drewN ?_ _))) hbx) | have BV := Lib.hid (belowT (show Below w.heap.size w _ by (repeat (first | with_reducible exact Below.refl _ _ | with_reducible assumption | with_reducible refine Below.alloc ?_ (by first | (simp; done) | (simp; omega) | omega) _ | with_reducible refine Below.setCell ?_ (by first | (simp; done) | (simp; omega) | omega) _ | with_reducible refine Below.drew ?_ | with_reducible refine below_drewN ?_ _))) hbx)); clear hbx))
  go_ret
  exact ⟨rfl, BV.out⟩
set_option maxRecDepth 100000 in
set_option maxHeartbeats 4000000 in
theorem se_q (h : Nat → Int × Int) (A : Option Addr) (n c : Nat) (g : Nat → Int × Int) (q : Int) (w : World) (hn : n ≤ 60) (hF : smE 4 h = 0) (hD : smE n g = 0) (hw : wi q 0 3 = false) (hA : GA w A n g) :
    Calls Try.prog 13 #[.agg (arr (flt h)), .slice A n c, .int .i64 q] w fun e w' => e = .returned (.bool true) ∧ Below w.heap.size w w' := by
  have h61 : ¬ (n : Int) > 60 := by omega
  have HS4 := Lib.hid (fun W b (H : GA W (some ⟨b, 0, none⟩) 4 h) => samplesErr_any (some ⟨b, 0, none⟩) 4 4 h W (by omega) H)
  have HSX := Lib.hid (fun W (hW : Below w.heap.size w W) => samplesErr_any A n c g W (by omega) (hA.bel hW))
  have HQE := Lib.hid (fun W => quarterErr_any q W)
  rw [show rgE q 0 3 = 2 by unfold rgE; rw [hw]; rfl] at HQE
  rw [hF] at HS4
  rw [hD] at HSX
  clear hF hD hA hw
  go_enter Try.func13, Try.ntmps13
  go_wp2_with (first
    | (go_at_call 17; (with_reducible refine Calls.mono (awake_any _) ?_); rintro e yx ⟨rfl, hbx⟩; (try replace p0 := keep hbx p0); (try replace p1 := keep hbx p1); (try replace l0 := keep hbx l0); (try replace l1 := keep hbx l1); (try replace l2 := keep hbx l2); (try replace HM3 := Lib.hid (HM3.out.on hbx)); (try replace HM7 := Lib.hid (HM7.out.on hbx)); (try replace HM13 := Lib.hid (HM13.out.on hbx)); (try replace TC := Lib.hid (TC.out.bel hbx)); (try replace T16 := Lib.hid (T16.out.bel hbx)); (first | replace BV := Lib.hid (belowT (show Below w.heap.size w _ by have Bq := BV.out; have Bz := Bq.size; (repeat (first | with_reducible exact Below.refl _ _ | with_reducible assumption | with_reducible refine Below.alloc ?_ (by first | (simp; done) | (simp; omega) | omega) _ | with_reducible refine Below.setCell ?_ (by first | (simp; done) | (simp; omega) | omega) _ | with_reducible refine Below.drew ?_ | with_reducible refine below_drewN ?_ _))) hbx) | have BV := Lib.hid (belowT (show Below w.heap.size w _ by (repeat (first | with_reducible exact Below.refl _ _ | with_reducible assumption | with_reducible refine Below.alloc ?_ (by first | (simp; done) | (simp; omega) | omega) _ | with_reducible refine Below.setCell ?_ (by first | (simp; done) | (simp; omega) | omega) _ | with_reducible refine Below.drew ?_ | with_reducible refine below_drewN ?_ _))) hbx)); have HM3 : Hid (IM yx w.heap.size 8 (flt h)) := Lib.hid (IM.on (arr_im w (flt h) 102) hbx); clear hbx)
    | (go_at_call 53; (with_reducible refine Calls.mono (HS4.out _ _ (ga_arr HM3.out)) ?_); rintro e yx ⟨rfl, hbx⟩; (try replace p0 := keep hbx p0); (try replace p1 := keep hbx p1); (try replace l0 := keep hbx l0); (try replace l1 := keep hbx l1); (try replace l2 := keep hbx l2); (try replace HM3 := Lib.hid (HM3.out.on hbx)); (try replace HM7 := Lib.hid (HM7.out.on hbx)); (try replace HM13 := Lib.hid (HM13.out.on hbx)); (try replace TC := Lib.hid (TC.out.bel hbx)); (try replace T16 := Lib.hid (T16.out.bel hbx)); (first | replace BV := Lib.hid (belowT (show Below w.heap.size w _ by have Bq := BV.out; have Bz := Bq.size; (repeat (first | with_reducible exact Below.refl _ _ | with_reducible assumption | with_reducible refine Below.alloc ?_ (by first | (simp; done) | (simp; omega) | omega) _ | with_reducible refine Below.setCell ?_ (by first | (simp; done) | (simp; omega) | omega) _ | with_reducible refine Below.drew ?_ | with_reducible refine below_drewN ?_ _))) hbx) | have BV := Lib.hid (belowT (show Below w.heap.size w _ by (repeat (first | with_reducible exact Below.refl _ _ | with_reducible assumption | with_reducible refine Below.alloc ?_ (by first | (simp; done) | (simp; omega) | omega) _ | with_reducible refine Below.setCell ?_ (by first | (simp; done) | (simp; omega) | omega) _ | with_reducible refine Below.drew ?_ | with_reducible refine below_drewN ?_ _))) hbx)); clear hbx)
    | (go_at_call 53; (with_reducible refine Calls.mono (HSX.out _ BV.out) ?_); rintro e yx ⟨rfl, hbx⟩; (try replace p0 := keep hbx p0); (try replace p1 := keep hbx p1); (try replace l0 := keep hbx l0); (try replace l1 := keep hbx l1); (try replace l2 := keep hbx l2); (try replace HM3 := Lib.hid (HM3.out.on hbx)); (try replace HM7 := Lib.hid (HM7.out.on hbx)); (try replace HM13 := Lib.hid (HM13.out.on hbx)); (try replace TC := Lib.hid (TC.out.bel hbx)); (try replace T16 := Lib.hid (T16.out.bel hbx)); (first | replace BV := Lib.hid (belowT (show Below w.heap.size w _ by have Bq := BV.out; have Bz := Bq.size; (repeat (first | with_reducible exact Below.refl _ _ | with_reducible assumption | with_reducible refine Below.alloc ?_ (by first | (simp; done) | (simp; omega) | omega) _ | with_reducible refine Below.setCell ?_ (by first | (simp; done) | (simp; omega) | omega) _ | with_reducible refine Below.drew ?_ | with_reducible refine below_drewN ?_ _))) hbx) | have BV := Lib.hid (belowT (show Below w.heap.size w _ by (repeat (first | with_reducible exact Below.refl _ _ | with_reducible assumption | with_reducible refine Below.alloc ?_ (by first | (simp; done) | (simp; omega) | omega) _ | with_reducible refine Below.setCell ?_ (by first | (simp; done) | (simp; omega) | omega) _ | with_reducible refine Below.drew ?_ | with_reducible refine below_drewN ?_ _))) hbx)); clear hbx)
    | (go_at_call 67; (with_reducible refine Calls.mono (HQE.out _) ?_); rintro e yx ⟨rfl, hbx⟩; (try replace p0 := keep hbx p0); (try replace p1 := keep hbx p1); (try replace l0 := keep hbx l0); (try replace l1 := keep hbx l1); (try replace l2 := keep hbx l2); (try replace HM3 := Lib.hid (HM3.out.on hbx)); (try replace HM7 := Lib.hid (HM7.out.on hbx)); (try replace HM13 := Lib.hid (HM13.out.on hbx)); (try replace TC := Lib.hid (TC.out.bel hbx)); (try replace T16 := Lib.hid (T16.out.bel hbx)); (first | replace BV := Lib.hid (belowT (show Below w.heap.size w _ by have Bq := BV.out; have Bz := Bq.size; (repeat (first | with_reducible exact Below.refl _ _ | with_reducible assumption | with_reducible refine Below.alloc ?_ (by first | (simp; done) | (simp; omega) | omega) _ | with_reducible refine Below.setCell ?_ (by first | (simp; done) | (simp; omega) | omega) _ | with_reducible refine Below.drew ?_ | with_reducible refine below_drewN ?_ _))) hbx) | have BV := Lib.hid (belowT (show Below w.heap.size w _ by (repeat (first | with_reducible exact Below.refl _ _ | with_reducible assumption | with_reducible refine Below.alloc ?_ (by first | (simp; done) | (simp; omega) | omega) _ | with_reducible refine Below.setCell ?_ (by first | (simp; done) | (simp; omega) | omega) _ | with_reducible refine Below.drew ?_ | with_reducible refine below_drewN ?_ _))) hbx)); clear hbx))
  go_ret
  exact ⟨rfl, BV.out⟩
set_option maxRecDepth 100000 in
set_option maxHeartbeats 4000000 in
theorem se_m (h : Nat → Int × Int) (A : Option Addr) (n c : Nat) (g : Nat → Int × Int) (q : Int) (w : World) (hn : n ≤ 60) (hF : smE 4 h = 0) (hD : smE n g = 0) (hw : wi q 0 3 = true) (hG : GS w (.slice A n c) n g) :
    Calls Try.prog 13 #[.agg (arr (flt h)), .slice A n c, .int .i64 q] w fun e w' => e = .returned (.bool true) ∧ Below w.heap.size w w' := by
  have hA : GA w A n g := by obtain ⟨A', c', e, h, _⟩ := hG; cases e; exact h
  have h61 : ¬ (n : Int) > 60 := by omega
  obtain ⟨q0, q1⟩ := wi_t.1 hw
  have HS4 := Lib.hid (fun W b (H : GA W (some ⟨b, 0, none⟩) 4 h) => samplesErr_any (some ⟨b, 0, none⟩) 4 4 h W (by omega) H)
  have HSX := Lib.hid (fun W (hW : Below w.heap.size w W) => samplesErr_any A n c g W (by omega) (hA.bel hW))
  have HQE := Lib.hid (fun W => quarterErr_any q W)
  rw [show rgE q 0 3 = 0 by unfold rgE; rw [hw]; rfl] at HQE
  rw [hF] at HS4
  rw [hD] at HSX
  have HC4 := Lib.hid (fun W b (H : GS W (.slice (some ⟨b, 0, none⟩) 4 4) 4 h) => copyG_any (.slice (some ⟨b, 0, none⟩) 4 4) 4 h W (by omega) H)
  have HCX := Lib.hid (fun W (hW : Below w.heap.size w W) => copyG_any (.slice A n c) n g W (by omega) (hG.on hW))
  have HBS := Lib.hid (fun A1 c1 W (H : GA W A1 4 h) => binsOfS_all A1 4 c1 h 0 (flt (sB h)) hF (fun _ => flt_sB h) (fun e => absurd rfl e) W (by omega) H)
  have HEN := Lib.hid (fun A1 c1 W (H : GA W A1 4 h) => energyOfS_any A1 4 c1 h W (by omega) H)
  rw [hF, if_pos rfl] at HEN
  have hh := (sm_0 hF).2
  have hsb := sB_bd hh
  have hb8 : b4E 8000 (sB h) = 0 := b4_of (fun i _ => hsb i)
  have HBE := Lib.hid (fun W => binsErr_arr (sB h) W)
  rw [hb8] at HBE
  have hb2 : b4E 2000 (rsF (sB h)) = 0 := b4_of (fun i hi => by rw [sB_rsF h i hi]; exact hh i hi)
  have HRS := Lib.hid (fun W => (show Calls Try.prog 74 #[.agg (arr (flt (sB h)))] W fun e w' => e = .returned (.tuple #[.agg (arr (flt (rsF (sB h)))), .int .i64 0]) ∧ Below W.heap.size W w' from restoredS_ok (sB h) W hb8 (fun j hj => sB_rsK h j hj) hb2))
  rw [sB_arr] at HRS
  have HNB := Lib.hid (nS_bd hsb)
  have HSB := Lib.hid hsb
  have HN4 := Lib.hid (nS_4 h)
  have hen := enS_bd hh 4 (Nat.le_refl _)
  have xe : IntKind.i64.wrap (4 * enS h 4) = 4 * enS h 4 := IntWalk.i64_in _ (by omega)
  have xq : IntKind.i64.wrap (q * 1024) = q * 1024 := IntWalk.i64_in _ (by omega)
  have hp : prgE 0 (q * 1024) 0 = 0 := by unfold prgE rgE; rw [wi_t.2 (by omega), wi_t.2 (by omega), wi_t.2 (by omega)]; rfl
  have hx : mxE 0 (q * 1024) 0 n g = 0 := by unfold mxE fs2; rw [hp, hD]; rfl
  have hgb := mx_bd (s := -1) (ph := 0) (inc := q * 1024) (ch := 0) (sm_0 hD).2
  have hbn := mx_bin q g n
  obtain ⟨gm, hgm⟩ : ∃ gm, mxS (-1) 0 (q * 1024) 0 g = gm := ⟨_, rfl⟩
  have HMX := Lib.hid (fun A1 c1 W (H : GA W A1 n g) => mixedS_ok 0 (q * 1024) 0 A1 n c1 g hx W H)
  rw [hgm] at HMX hgb hbn
  have hsm : smE n gm = 0 := sm_bd (by omega) hgb
  have HSM := Lib.hid (fun A1 c1 W (H : GA W A1 n gm) => samplesErr_any A1 n c1 gm W (by omega) H)
  rw [hsm] at HSM
  have HBO := Lib.hid (fun A1 c1 W (H : GA W A1 n g) => binOfS_ok A1 n c1 g q (by unfold boE fs2 rgE; rw [hD, hw]; rfl) W H)
  have HBM := Lib.hid (fun A1 c1 W (H : GA W A1 n gm) => binOfS_ok A1 n c1 gm 0 (by unfold boE fs2; rw [hsm]; rfl) W H)
  rw [show (-(0 : Int)) = 0 from rfl, hbn] at HBM
  clear hF hD hw hA hG hh hsb hb8 hb2 hen hp hx hgb hbn hgm hsm q0 q1
  generalize (bnS (-q) g n).1 = X at *
  generalize (bnS (-q) g n).2 = Y at *
  generalize enS h 4 = en at *
  obtain ⟨fs, hfs⟩ : ∃ fs, flt (sB h) = fs := ⟨_, rfl⟩
  have hf0 : ∀ k, fs (k * 2) = (sB h k).1 := fun k => by rw [← hfs]; exact flt_0 _ k
  have hf1 : ∀ k, fs (k * 2 + 1) = (sB h k).2 := fun k => by rw [← hfs]; exact flt_1 _ k
  have HF01 := Lib.hid (And.intro hf0 hf1)
  rw [hfs] at HBS HBE HRS
  obtain ⟨fh, hfh⟩ : ∃ fh, flt h = fh := ⟨_, rfl⟩
  rw [hfh] at HRS ⊢
  have HFH := Lib.hid hfh
  clear hfs hf0 hf1 hfh
  have HBE2 := Lib.hid (fun W => (show Calls Try.prog 75 #[.agg #[.int .i64 (fs 0), .int .i64 (fs 1), .int .i64 (fs 2), .int .i64 (fs 3), .int .i64 (fs 4), .int .i64 (fs 5), .int .i64 (fs 6), .int .i64 (fs 7)]] W fun e w' => e = .returned (.int .i64 0) ∧ Below W.heap.size W w' from HBE.out W))
  go_enter Try.func13, Try.ntmps13
  go_upto_region 6 with (first
    | (go_at_call 17; (with_reducible refine Calls.mono (awake_any _) ?_); rintro e yx ⟨rfl, hbx⟩; (try replace p0 := keep hbx p0); (try replace p1 := keep hbx p1); (try replace l0 := keep hbx l0); (try replace l1 := keep hbx l1); (try replace l2 := keep hbx l2); (try replace HM3 := Lib.hid (HM3.out.on hbx)); (try replace HM7 := Lib.hid (HM7.out.on hbx)); (try replace HM13 := Lib.hid (HM13.out.on hbx)); (try replace TC := Lib.hid (TC.out.bel hbx)); (try replace T16 := Lib.hid (T16.out.bel hbx)); (first | replace BV := Lib.hid (belowT (show Below w.heap.size w _ by have Bq := BV.out; have Bz := Bq.size; (repeat (first | with_reducible exact Below.refl _ _ | with_reducible assumption | with_reducible refine Below.alloc ?_ (by first | (simp; done) | (simp; omega) | omega) _ | with_reducible refine Below.setCell ?_ (by first | (simp; done) | (simp; omega) | omega) _ | with_reducible refine Below.drew ?_ | with_reducible refine below_drewN ?_ _))) hbx) | have BV := Lib.hid (belowT (show Below w.heap.size w _ by (repeat (first | with_reducible exact Below.refl _ _ | with_reducible assumption | with_reducible refine Below.alloc ?_ (by first | (simp; done) | (simp; omega) | omega) _ | with_reducible refine Below.setCell ?_ (by first | (simp; done) | (simp; omega) | omega) _ | with_reducible refine Below.drew ?_ | with_reducible refine below_drewN ?_ _))) hbx)); have HM3 : Hid (IM yx w.heap.size 8 fh) := Lib.hid (IM.on (arr_im w fh 102) hbx); clear hbx)
    | (go_at_call 53; (with_reducible refine Calls.mono (HS4.out _ _ (ga_arr (HFH.out.symm ▸ HM3.out))) ?_); rintro e yx ⟨rfl, hbx⟩; (try replace p0 := keep hbx p0); (try replace p1 := keep hbx p1); (try replace l0 := keep hbx l0); (try replace l1 := keep hbx l1); (try replace l2 := keep hbx l2); (try replace HM3 := Lib.hid (HM3.out.on hbx)); (try replace HM7 := Lib.hid (HM7.out.on hbx)); (try replace HM13 := Lib.hid (HM13.out.on hbx)); (try replace TC := Lib.hid (TC.out.bel hbx)); (try replace T16 := Lib.hid (T16.out.bel hbx)); (first | replace BV := Lib.hid (belowT (show Below w.heap.size w _ by have Bq := BV.out; have Bz := Bq.size; (repeat (first | with_reducible exact Below.refl _ _ | with_reducible assumption | with_reducible refine Below.alloc ?_ (by first | (simp; done) | (simp; omega) | omega) _ | with_reducible refine Below.setCell ?_ (by first | (simp; done) | (simp; omega) | omega) _ | with_reducible refine Below.drew ?_ | with_reducible refine below_drewN ?_ _))) hbx) | have BV := Lib.hid (belowT (show Below w.heap.size w _ by (repeat (first | with_reducible exact Below.refl _ _ | with_reducible assumption | with_reducible refine Below.alloc ?_ (by first | (simp; done) | (simp; omega) | omega) _ | with_reducible refine Below.setCell ?_ (by first | (simp; done) | (simp; omega) | omega) _ | with_reducible refine Below.drew ?_ | with_reducible refine below_drewN ?_ _))) hbx)); clear hbx)
    | (go_at_call 53; (with_reducible refine Calls.mono (HSX.out _ BV.out) ?_); rintro e yx ⟨rfl, hbx⟩; (try replace p0 := keep hbx p0); (try replace p1 := keep hbx p1); (try replace l0 := keep hbx l0); (try replace l1 := keep hbx l1); (try replace l2 := keep hbx l2); (try replace HM3 := Lib.hid (HM3.out.on hbx)); (try replace HM7 := Lib.hid (HM7.out.on hbx)); (try replace HM13 := Lib.hid (HM13.out.on hbx)); (try replace TC := Lib.hid (TC.out.bel hbx)); (try replace T16 := Lib.hid (T16.out.bel hbx)); (first | replace BV := Lib.hid (belowT (show Below w.heap.size w _ by have Bq := BV.out; have Bz := Bq.size; (repeat (first | with_reducible exact Below.refl _ _ | with_reducible assumption | with_reducible refine Below.alloc ?_ (by first | (simp; done) | (simp; omega) | omega) _ | with_reducible refine Below.setCell ?_ (by first | (simp; done) | (simp; omega) | omega) _ | with_reducible refine Below.drew ?_ | with_reducible refine below_drewN ?_ _))) hbx) | have BV := Lib.hid (belowT (show Below w.heap.size w _ by (repeat (first | with_reducible exact Below.refl _ _ | with_reducible assumption | with_reducible refine Below.alloc ?_ (by first | (simp; done) | (simp; omega) | omega) _ | with_reducible refine Below.setCell ?_ (by first | (simp; done) | (simp; omega) | omega) _ | with_reducible refine Below.drew ?_ | with_reducible refine below_drewN ?_ _))) hbx)); clear hbx)
    | (go_at_call 67; (with_reducible refine Calls.mono (HQE.out _) ?_); rintro e yx ⟨rfl, hbx⟩; (try replace p0 := keep hbx p0); (try replace p1 := keep hbx p1); (try replace l0 := keep hbx l0); (try replace l1 := keep hbx l1); (try replace l2 := keep hbx l2); (try replace HM3 := Lib.hid (HM3.out.on hbx)); (try replace HM7 := Lib.hid (HM7.out.on hbx)); (try replace HM13 := Lib.hid (HM13.out.on hbx)); (try replace TC := Lib.hid (TC.out.bel hbx)); (try replace T16 := Lib.hid (T16.out.bel hbx)); (first | replace BV := Lib.hid (belowT (show Below w.heap.size w _ by have Bq := BV.out; have Bz := Bq.size; (repeat (first | with_reducible exact Below.refl _ _ | with_reducible assumption | with_reducible refine Below.alloc ?_ (by first | (simp; done) | (simp; omega) | omega) _ | with_reducible refine Below.setCell ?_ (by first | (simp; done) | (simp; omega) | omega) _ | with_reducible refine Below.drew ?_ | with_reducible refine below_drewN ?_ _))) hbx) | have BV := Lib.hid (belowT (show Below w.heap.size w _ by (repeat (first | with_reducible exact Below.refl _ _ | with_reducible assumption | with_reducible refine Below.alloc ?_ (by first | (simp; done) | (simp; omega) | omega) _ | with_reducible refine Below.setCell ?_ (by first | (simp; done) | (simp; omega) | omega) _ | with_reducible refine Below.drew ?_ | with_reducible refine below_drewN ?_ _))) hbx)); clear hbx)
    | (go_at_call 49; (with_reducible refine Calls.mono (HC4.out _ _ (gs_arr (HFH.out.symm ▸ HM3.out))) ?_); rintro e yx ⟨vc, rfl, hbx, Ac, cc, rfl, hGc, _⟩; (try replace p0 := keep hbx p0); (try replace p1 := keep hbx p1); (try replace l0 := keep hbx l0); (try replace l1 := keep hbx l1); (try replace l2 := keep hbx l2); (try replace HM3 := Lib.hid (HM3.out.on hbx)); (try replace HM7 := Lib.hid (HM7.out.on hbx)); (try replace HM13 := Lib.hid (HM13.out.on hbx)); (try replace TC := Lib.hid (TC.out.bel hbx)); (try replace T16 := Lib.hid (T16.out.bel hbx)); (first | replace BV := Lib.hid (belowT (show Below w.heap.size w _ by have Bq := BV.out; have Bz := Bq.size; (repeat (first | with_reducible exact Below.refl _ _ | with_reducible assumption | with_reducible refine Below.alloc ?_ (by first | (simp; done) | (simp; omega) | omega) _ | with_reducible refine Below.setCell ?_ (by first | (simp; done) | (simp; omega) | omega) _ | with_reducible refine Below.drew ?_ | with_reducible refine below_drewN ?_ _))) hbx) | have BV := Lib.hid (belowT (show Below w.heap.size w _ by (repeat (first | with_reducible exact Below.refl _ _ | with_reducible assumption | with_reducible refine Below.alloc ?_ (by first | (simp; done) | (simp; omega) | omega) _ | with_reducible refine Below.setCell ?_ (by first | (simp; done) | (simp; omega) | omega) _ | with_reducible refine Below.drew ?_ | with_reducible refine below_drewN ?_ _))) hbx)); have TC := Lib.hid hGc; clear hGc; clear hbx)
    | (go_at_call 73; (with_reducible refine Calls.mono (HBS.out _ _ _ TC.out) ?_); rintro e yx ⟨rfl, hbx⟩; (try replace p0 := keep hbx p0); (try replace p1 := keep hbx p1); (try replace l0 := keep hbx l0); (try replace l1 := keep hbx l1); (try replace l2 := keep hbx l2); (try replace HM3 := Lib.hid (HM3.out.on hbx)); (try replace HM7 := Lib.hid (HM7.out.on hbx)); (try replace HM13 := Lib.hid (HM13.out.on hbx)); (try replace TC := Lib.hid (TC.out.bel hbx)); (try replace T16 := Lib.hid (T16.out.bel hbx)); (first | replace BV := Lib.hid (belowT (show Below w.heap.size w _ by have Bq := BV.out; have Bz := Bq.size; (repeat (first | with_reducible exact Below.refl _ _ | with_reducible assumption | with_reducible refine Below.alloc ?_ (by first | (simp; done) | (simp; omega) | omega) _ | with_reducible refine Below.setCell ?_ (by first | (simp; done) | (simp; omega) | omega) _ | with_reducible refine Below.drew ?_ | with_reducible refine below_drewN ?_ _))) hbx) | have BV := Lib.hid (belowT (show Below w.heap.size w _ by (repeat (first | with_reducible exact Below.refl _ _ | with_reducible assumption | with_reducible refine Below.alloc ?_ (by first | (simp; done) | (simp; omega) | omega) _ | with_reducible refine Below.setCell ?_ (by first | (simp; done) | (simp; omega) | omega) _ | with_reducible refine Below.drew ?_ | with_reducible refine below_drewN ?_ _))) hbx)); clear hbx)
    | (refine wl_st8n rfl _ _ rfl _ rfl rfl (fs) rfl ?_))
  obtain ⟨b7, hb7⟩ : ∃ b7, yx.heap.size = b7 := ⟨_, rfl⟩
  have hvv : Below yx.heap.size yx (yx.alloc (.cells (arr fs) 102)) := (Below.refl _ _).alloc (Nat.le_refl _) _
  have HM7 : Hid (IM (yx.alloc (.cells (arr fs) 102)) b7 8 (fs)) := Lib.hid (hb7 ▸ arr_im yx (fs) 102)
  replace HM3 := Lib.hid (HM3.out.on hvv)
  replace BV := Lib.hid (belowT BV.out hvv)
  clear hvv
  generalize (yx.alloc (.cells (arr fs) 102)) = v1 at *
  rw [hb7]
  clear hb7
  go_upto_region 7 with (first
    | (go_at_call 49; (with_reducible refine Calls.mono (HC4.out _ _ (gs_arr (HFH.out.symm ▸ HM3.out))) ?_); rintro e yx ⟨vc, rfl, hbx, Ac, cc, rfl, hGc, _⟩; (try replace p0 := keep hbx p0); (try replace p1 := keep hbx p1); (try replace l0 := keep hbx l0); (try replace l1 := keep hbx l1); (try replace l2 := keep hbx l2); (try replace HM3 := Lib.hid (HM3.out.on hbx)); (try replace HM7 := Lib.hid (HM7.out.on hbx)); (try replace HM13 := Lib.hid (HM13.out.on hbx)); (try replace TC := Lib.hid (TC.out.bel hbx)); (try replace T16 := Lib.hid (T16.out.bel hbx)); (first | replace BV := Lib.hid (belowT (show Below w.heap.size w _ by have Bq := BV.out; have Bz := Bq.size; (repeat (first | with_reducible exact Below.refl _ _ | with_reducible assumption | with_reducible refine Below.alloc ?_ (by first | (simp; done) | (simp; omega) | omega) _ | with_reducible refine Below.setCell ?_ (by first | (simp; done) | (simp; omega) | omega) _ | with_reducible refine Below.drew ?_ | with_reducible refine below_drewN ?_ _))) hbx) | have BV := Lib.hid (belowT (show Below w.heap.size w _ by (repeat (first | with_reducible exact Below.refl _ _ | with_reducible assumption | with_reducible refine Below.alloc ?_ (by first | (simp; done) | (simp; omega) | omega) _ | with_reducible refine Below.setCell ?_ (by first | (simp; done) | (simp; omega) | omega) _ | with_reducible refine Below.drew ?_ | with_reducible refine below_drewN ?_ _))) hbx)); have TC := Lib.hid hGc; clear hGc; clear hbx)
    | (go_at_call 52; (with_reducible refine Calls.mono (HEN.out _ _ _ TC.out) ?_); rintro e yx ⟨rfl, hbx⟩; (try replace p0 := keep hbx p0); (try replace p1 := keep hbx p1); (try replace l0 := keep hbx l0); (try replace l1 := keep hbx l1); (try replace l2 := keep hbx l2); (try replace HM3 := Lib.hid (HM3.out.on hbx)); (try replace HM7 := Lib.hid (HM7.out.on hbx)); (try replace HM13 := Lib.hid (HM13.out.on hbx)); (try replace TC := Lib.hid (TC.out.bel hbx)); (try replace T16 := Lib.hid (T16.out.bel hbx)); (first | replace BV := Lib.hid (belowT (show Below w.heap.size w _ by have Bq := BV.out; have Bz := Bq.size; (repeat (first | with_reducible exact Below.refl _ _ | with_reducible assumption | with_reducible refine Below.alloc ?_ (by first | (simp; done) | (simp; omega) | omega) _ | with_reducible refine Below.setCell ?_ (by first | (simp; done) | (simp; omega) | omega) _ | with_reducible refine Below.drew ?_ | with_reducible refine below_drewN ?_ _))) hbx) | have BV := Lib.hid (belowT (show Below w.heap.size w _ by (repeat (first | with_reducible exact Below.refl _ _ | with_reducible assumption | with_reducible refine Below.alloc ?_ (by first | (simp; done) | (simp; omega) | omega) _ | with_reducible refine Below.setCell ?_ (by first | (simp; done) | (simp; omega) | omega) _ | with_reducible refine Below.drew ?_ | with_reducible refine below_drewN ?_ _))) hbx)); clear hbx))
  have cs0 : _ = some (Value.int .i64 (fs 0)) := (HM7.out.2 0 (by omega)).1; have cs1 : _ = some (Value.int .i64 (fs 1)) := (HM7.out.2 1 (by omega)).1; have cs2 : _ = some (Value.int .i64 (fs 2)) := (HM7.out.2 2 (by omega)).1; have cs3 : _ = some (Value.int .i64 (fs 3)) := (HM7.out.2 3 (by omega)).1; have cs4 : _ = some (Value.int .i64 (fs 4)) := (HM7.out.2 4 (by omega)).1; have cs5 : _ = some (Value.int .i64 (fs 5)) := (HM7.out.2 5 (by omega)).1; have cs6 : _ = some (Value.int .i64 (fs 6)) := (HM7.out.2 6 (by omega)).1; have cs7 : _ = some (Value.int .i64 (fs 7)) := (HM7.out.2 7 (by omega)).1
  go_wp2_with (first
    | (go_at_call 75; (with_reducible refine Calls.mono (HBE2.out _) ?_); rintro e yx ⟨rfl, hbx⟩; (try replace p0 := keep hbx p0); (try replace p1 := keep hbx p1); (try replace l0 := keep hbx l0); (try replace l1 := keep hbx l1); (try replace l2 := keep hbx l2); (try replace HM3 := Lib.hid (HM3.out.on hbx)); (try replace HM7 := Lib.hid (HM7.out.on hbx)); (try replace HM13 := Lib.hid (HM13.out.on hbx)); (try replace TC := Lib.hid (TC.out.bel hbx)); (try replace T16 := Lib.hid (T16.out.bel hbx)); (first | replace BV := Lib.hid (belowT (show Below w.heap.size w _ by have Bq := BV.out; have Bz := Bq.size; (repeat (first | with_reducible exact Below.refl _ _ | with_reducible assumption | with_reducible refine Below.alloc ?_ (by first | (simp; done) | (simp; omega) | omega) _ | with_reducible refine Below.setCell ?_ (by first | (simp; done) | (simp; omega) | omega) _ | with_reducible refine Below.drew ?_ | with_reducible refine below_drewN ?_ _))) hbx) | have BV := Lib.hid (belowT (show Below w.heap.size w _ by (repeat (first | with_reducible exact Below.refl _ _ | with_reducible assumption | with_reducible refine Below.alloc ?_ (by first | (simp; done) | (simp; omega) | omega) _ | with_reducible refine Below.setCell ?_ (by first | (simp; done) | (simp; omega) | omega) _ | with_reducible refine Below.drew ?_ | with_reducible refine below_drewN ?_ _))) hbx)); clear hbx))
  clear cs0 cs1 cs2 cs3 cs4 cs5 cs6 cs7
  obtain ⟨wo, rfl⟩ : ∃ wo : World, wo = yx := ⟨_, rfl⟩
  go_loopw [11, 12] (fun s11 s12 wr => ∃ k : Nat, k ≤ 4 ∧ s12 = .int .i64 k ∧ s11 = .int .i64 (nS (sB h) k) ∧ Hid (Below w.heap.size w wr) ∧ Hid (IM wr w.heap.size 8 fh) ∧ Hid (IM wr b7 8 fs)) (fun _ i _ => 4 - (intOf i).toNat)
  case atStart => exact ⟨0, Nat.zero_le _, rfl, rfl, BV.out, HM3.out, HM7.out⟩
  case round =>
    obtain ⟨k, hk, rfl, rfl, BV, HM3, HM7⟩ := hrel
    by_cases hlt : k < 4
    · have c0 := (HM7.out.2 (k * 2) (by omega)).1
      have c1 := (HM7.out.2 (k * 2 + 1) (by omega)).1
      rw [HF01.out.1] at c0
      rw [HF01.out.2] at c1
      have hsk := HSB.out k
      have HGN := Lib.hid (fun W => gnorm_any (sB h k).1 (sB h k).2 (by omega) (by omega) (by omega) (by omega) W)
      have HS : Hid (nS (sB h) k + nrm ((sB h k).1, (sB h k).2) = nS (sB h) (k + 1)) := Lib.hid rfl
      have w1 : IntKind.i64.wrap (nS (sB h) k + nrm ((sB h k).1, (sB h k).2)) = nS (sB h) (k + 1) := by
        rw [HS.out]
        refine IntWalk.i64_in _ ?_
        have := HNB.out (k + 1)
        omega
      have g1 : (0 : Int) ≤ (k : Int) := by omega
      have g2 : (k : Int) < 4 := by omega
      clear hsk
      generalize nrm ((sB h k).1, (sB h k).2) = z at *
      generalize (sB h k).1 = x at *
      generalize (sB h k).2 = y at *
      go_wp2_with (go_at_call 79; (with_reducible refine Calls.mono (HGN.out _) ?_); rintro e w3 ⟨rfl, hb3⟩; have HB3 := Lib.hid (belowT BV.out hb3); have H3 := Lib.hid (HM3.out.on hb3); have H7 := Lib.hid (HM7.out.on hb3); clear hb3)
      go_roundw
      case rel => exact ⟨k + 1, by omega, by go_num, rfl, HB3.out, H3.out, H7.out⟩
      case measure => simp [intOf]; omega
    · obtain rfl : k = 4 := by omega
      rw [HN4.out]
      have g2 : ¬ ((4 : Nat) : Int) < 4 := by omega
      obtain ⟨yx, rfl⟩ : ∃ yx : World, yx = wr := ⟨_, rfl⟩
      clear HNB HSB HN4 HF01
      go_upto_region 15 with (first
        | (refine wl_ld8 rfl _ rfl b7 rfl fs HM7.out ?_)
        | (go_at_call 74; (with_reducible refine Calls.mono (HRS.out _) ?_); rintro e yx ⟨rfl, hbx⟩; (try replace p0 := keep hbx p0); (try replace p1 := keep hbx p1); (try replace l0 := keep hbx l0); (try replace l1 := keep hbx l1); (try replace l2 := keep hbx l2); (try replace HM3 := Lib.hid (HM3.out.on hbx)); (try replace HM7 := Lib.hid (HM7.out.on hbx)); (try replace HM13 := Lib.hid (HM13.out.on hbx)); (try replace TC := Lib.hid (TC.out.bel hbx)); (try replace T16 := Lib.hid (T16.out.bel hbx)); (first | replace BV := Lib.hid (belowT (show Below w.heap.size w _ by have Bq := BV.out; have Bz := Bq.size; (repeat (first | with_reducible exact Below.refl _ _ | with_reducible assumption | with_reducible refine Below.alloc ?_ (by first | (simp; done) | (simp; omega) | omega) _ | with_reducible refine Below.setCell ?_ (by first | (simp; done) | (simp; omega) | omega) _ | with_reducible refine Below.drew ?_ | with_reducible refine below_drewN ?_ _))) hbx) | have BV := Lib.hid (belowT (show Below w.heap.size w _ by (repeat (first | with_reducible exact Below.refl _ _ | with_reducible assumption | with_reducible refine Below.alloc ?_ (by first | (simp; done) | (simp; omega) | omega) _ | with_reducible refine Below.setCell ?_ (by first | (simp; done) | (simp; omega) | omega) _ | with_reducible refine Below.drew ?_ | with_reducible refine below_drewN ?_ _))) hbx)); clear hbx)
        | (refine wl_st8n rfl _ _ rfl _ rfl rfl (fh) rfl ?_))
      obtain ⟨b13, hb13⟩ : ∃ b13, yx.heap.size = b13 := ⟨_, rfl⟩
      have hvv : Below yx.heap.size yx (yx.alloc (.cells (arr fh) 102)) := (Below.refl _ _).alloc (Nat.le_refl _) _
      have HM13 : Hid (IM (yx.alloc (.cells (arr fh) 102)) b13 8 (fh)) := Lib.hid (hb13 ▸ arr_im yx (fh) 102)
      replace HM3 := Lib.hid (HM3.out.on hvv)
      replace BV := Lib.hid (belowT BV.out hvv)
      clear hvv
      generalize (yx.alloc (.cells (arr fh) 102)) = v2 at *
      rw [hb13]
      clear hb13
      have ca0 : _ = some (Value.int .i64 (fh 0)) := (HM13.out.2 0 (by omega)).1; have ca1 : _ = some (Value.int .i64 (fh 1)) := (HM13.out.2 1 (by omega)).1; have ca2 : _ = some (Value.int .i64 (fh 2)) := (HM13.out.2 2 (by omega)).1; have ca3 : _ = some (Value.int .i64 (fh 3)) := (HM13.out.2 3 (by omega)).1; have ca4 : _ = some (Value.int .i64 (fh 4)) := (HM13.out.2 4 (by omega)).1; have ca5 : _ = some (Value.int .i64 (fh 5)) := (HM13.out.2 5 (by omega)).1; have ca6 : _ = some (Value.int .i64 (fh 6)) := (HM13.out.2 6 (by omega)).1; have ca7 : _ = some (Value.int .i64 (fh 7)) := (HM13.out.2 7 (by omega)).1
      have cb0 : _ = some (Value.int .i64 (fh 0)) := (HM3.out.2 0 (by omega)).1; have cb1 : _ = some (Value.int .i64 (fh 1)) := (HM3.out.2 1 (by omega)).1; have cb2 : _ = some (Value.int .i64 (fh 2)) := (HM3.out.2 2 (by omega)).1; have cb3 : _ = some (Value.int .i64 (fh 3)) := (HM3.out.2 3 (by omega)).1; have cb4 : _ = some (Value.int .i64 (fh 4)) := (HM3.out.2 4 (by omega)).1; have cb5 : _ = some (Value.int .i64 (fh 5)) := (HM3.out.2 5 (by omega)).1; have cb6 : _ = some (Value.int .i64 (fh 6)) := (HM3.out.2 6 (by omega)).1; have cb7 : _ = some (Value.int .i64 (fh 7)) := (HM3.out.2 7 (by omega)).1
      go_upto_region 18 with (first
        | (refine wl_arN _ _ _ rfl rfl fh rfl rfl ?_))
      clear ca0 cb0 ca1 cb1 ca2 cb2 ca3 cb3 ca4 cb4 ca5 cb5 ca6 cb6 ca7 cb7 HM13 HM3 HM7 HRS HBS HEN HBE HBE2 HC4 HS4
      obtain ⟨b15, hb15⟩ : ∃ b15, v2.heap.size = b15 := ⟨_, rfl⟩
      have hvv : Below v2.heap.size v2 (v2.alloc (.cells #[.int .i64 0, .int .i64 (q * 1024), .int .i64 0] 59)) := (Below.refl _ _).alloc (Nat.le_refl _) _
      have l0 : (v2.alloc (.cells #[.int .i64 0, .int .i64 (q * 1024), .int .i64 0] 59)).cell? ⟨b15, 0, none⟩ = some (.int .i64 0) := by rw [← hb15]; simp [go_sem]
      have l1 : (v2.alloc (.cells #[.int .i64 0, .int .i64 (q * 1024), .int .i64 0] 59)).cell? ⟨b15, 1, none⟩ = some (.int .i64 (q * 1024)) := by rw [← hb15]; simp [go_sem]
      have l2 : (v2.alloc (.cells #[.int .i64 0, .int .i64 (q * 1024), .int .i64 0] 59)).cell? ⟨b15, 2, none⟩ = some (.int .i64 0) := by rw [← hb15]; simp [go_sem]
      replace BV := Lib.hid (belowT BV.out hvv)
      clear hvv
      generalize (v2.alloc (.cells #[.int .i64 0, .int .i64 (q * 1024), .int .i64 0] 59)) = v3 at *
      rw [hb15]
      clear hb15
      refine wp_region_mp [mpEq (.agg #[.int .i64 0, .int .i64 (q * 1024), .int .i64 0]), mpEq (.slice A n c), mpGS (n) (g), mpTG (n) (gm) (0), mpTG (n) (gm) (0), mpGS (n) (gm), mpEq (.int .i64 (0)), mpGS (n) (gm), mpEq (.int .i64 (0))] qn0 (by kernel_rfl) (by kernel_rfl) (by kernel_rfl) (
            allOps_cons (fun a' w' hb hs hd => rg_op fun K hK => by
          have e0 := (hs.get 15 (by kernel_rfl)).trans (show _ = .pointer (some ⟨b15, 0, none⟩) from rfl)
          have ec : ∀ v, a'.eval (.const v) = v := fun _ => rfl
          have c0 := keep hb l0
          have c1 := keep hb l1
          have c2 := keep hb l2
          clear hs hd
          unfold Oper.wp
          generalize a'.eval = ρ at e0 ec ⊢
          simp [go_sem, e0, c0, c1, c2]
          exact hK _ _ (Below.refl _ _) rfl) <|
            allOps_cons (fun a' w' hb hs hd => rg_op fun K hK => by
          have e0 := (hs.get 1 (by kernel_rfl)).trans (show _ = .slice A n c from rfl)
          have ec : ∀ v, a'.eval (.const v) = v := fun _ => rfl
          clear hs hd
          unfold Oper.wp
          generalize a'.eval = ρ at e0 ec ⊢
          simp [go_sem, e0]
          exact hK _ _ (Below.refl _ _) rfl) <|
            allOps_cons (fun a' w' hb hs hd => by
          exact rg_fn (φ := (mpGS (n) (g)).p) (vs := #[.slice A n c]) rfl (enters_of Try.func49 (by kernel_rfl) rfl) (by simp [(show a'.eval (.tmp 98) = .slice A n c from hd.get 1 98 (by kernel_rfl) (by kernel_rfl))]) ((HCX.out w' (belowT BV.out hb)).mono (by rintro e w1 ⟨v, rfl, h1, h2⟩; exact ⟨_, rfl, h1, h2⟩))) <|
            allOps_cons (fun a' w' hb hs hd => by
          obtain ⟨A1, c1, e1, hG1, _⟩ := (show (mpGS (n) (g)).p (a'.eval (.tmp 99)) w' from hd.get 2 99 (by kernel_rfl) (by kernel_rfl))
          exact rg_fn (φ := (mpTG (n) (gm) (0)).p) (vs := #[.agg #[.int .i64 0, .int .i64 (q * 1024), .int .i64 0], .slice A1 n c1]) rfl (enters_of Try.func48 (by kernel_rfl) rfl) (by simp [(show a'.eval (.tmp 97) = .agg #[.int .i64 0, .int .i64 (q * 1024), .int .i64 0] from hd.get 0 97 (by kernel_rfl) (by kernel_rfl)), e1]) ((HMX.out A1 c1 w' hG1).mono (by rintro e w1 ⟨A2, c2, rfl, h1, h2, h3⟩; exact ⟨_, rfl, h1, A2, c2, rfl, h2, fun q => (by have h4 := h3 q; first | exact h4 | simpa using h4)⟩))) <|
            allOps_cons (fun a' w' hb hs hd => rg_op fun K hK => by
          have e0 := (show (mpTG (n) (gm) (0)).p (a'.eval (.tmp 100)) w' from hd.get 3 100 (by kernel_rfl) (by kernel_rfl))
          clear hs hd
          unfold Oper.wp
          generalize a'.eval = ρ at e0 ⊢
          simp [go_sem]
          exact hK _ _ (Below.refl _ _) e0) <|
            allOps_cons (fun a' w' hb hs hd => rg_op fun K hK => by
          obtain ⟨At, ct, e0, ht1, ht2⟩ := (show (mpTG (n) (gm) (0)).p (a'.eval (.tmp 96)) w' from hd.get 4 96 (by kernel_rfl) (by kernel_rfl))
          clear hs hd
          unfold Oper.wp
          generalize a'.eval = ρ at e0 ⊢
          simp [go_sem, e0]
          exact hK _ _ (Below.refl _ _) ⟨At, ct, rfl, ht1, ht2⟩) <|
            allOps_cons (fun a' w' hb hs hd => rg_op fun K hK => by
          obtain ⟨At, ct, e0, ht1, ht2⟩ := (show (mpTG (n) (gm) (0)).p (a'.eval (.tmp 96)) w' from hd.get 4 96 (by kernel_rfl) (by kernel_rfl))
          clear hs hd
          unfold Oper.wp
          generalize a'.eval = ρ at e0 ⊢
          simp [go_sem, e0]
          exact hK _ _ (Below.refl _ _) rfl) <|
            allOps_cons (fun a' w' hb hs hd => rg_op fun K hK => by
          have e0 := (show (mpGS (n) (gm)).p (a'.eval (.tmp 101)) w' from hd.get 5 101 (by kernel_rfl) (by kernel_rfl))
          clear hs hd
          unfold Oper.wp
          generalize a'.eval = ρ at e0 ⊢
          simp [go_sem]
          exact hK _ _ (Below.refl _ _) e0) <|
            allOps_cons (fun a' w' hb hs hd => rg_op fun K hK => by
          have e0 := (show a'.eval (.tmp 102) = .int .i64 (0) from hd.get 6 102 (by kernel_rfl) (by kernel_rfl))
          have ec : ∀ v, a'.eval (.const v) = v := fun _ => rfl
          clear hs hd
          unfold Oper.wp
          generalize a'.eval = ρ at e0 ec ⊢
          simp [go_sem, e0]
          exact hK _ _ (Below.refl _ _) rfl) <| allOps_nil) (fun V v4 hv hall => ?_)
      have h16 : (mpGS (n) (gm)).p (V 16) _ := hall.get 7 rfl
      have h17 : V 17 = .int .i64 (0) := hall.get 8 rfl
      clear hall
      simp only [qn0, maskPut, Nat.reduceAdd]
      rw [h17]
      clear h17
      obtain ⟨A16, c16, e16, hG16, _⟩ := h16
      rw [e16]
      replace BV := Lib.hid (belowT BV.out hv)
      have T16 := Lib.hid hG16
      clear hv hG16 e16 l0 l1 l2 HMX
      go_upto_region 20 with (first
        | (go_at_call 49; (with_reducible refine Calls.mono (HCX.out _ BV.out) ?_); rintro e yx ⟨vc, rfl, hbx, Ac, cc, rfl, hGc, _⟩; (try replace p0 := keep hbx p0); (try replace p1 := keep hbx p1); (try replace l0 := keep hbx l0); (try replace l1 := keep hbx l1); (try replace l2 := keep hbx l2); (try replace HM3 := Lib.hid (HM3.out.on hbx)); (try replace HM7 := Lib.hid (HM7.out.on hbx)); (try replace HM13 := Lib.hid (HM13.out.on hbx)); (try replace TC := Lib.hid (TC.out.bel hbx)); (try replace T16 := Lib.hid (T16.out.bel hbx)); (first | replace BV := Lib.hid (belowT (show Below w.heap.size w _ by have Bq := BV.out; have Bz := Bq.size; (repeat (first | with_reducible exact Below.refl _ _ | with_reducible assumption | with_reducible refine Below.alloc ?_ (by first | (simp; done) | (simp; omega) | omega) _ | with_reducible refine Below.setCell ?_ (by first | (simp; done) | (simp; omega) | omega) _ | with_reducible refine Below.drew ?_ | with_reducible refine below_drewN ?_ _))) hbx) | have BV := Lib.hid (belowT (show Below w.heap.size w _ by (repeat (first | with_reducible exact Below.refl _ _ | with_reducible assumption | with_reducible refine Below.alloc ?_ (by first | (simp; done) | (simp; omega) | omega) _ | with_reducible refine Below.setCell ?_ (by first | (simp; done) | (simp; omega) | omega) _ | with_reducible refine Below.drew ?_ | with_reducible refine below_drewN ?_ _))) hbx)); have TC := Lib.hid hGc; clear hGc; clear hbx)
        | (go_at_call 72; (with_reducible refine Calls.mono (HBO.out _ _ _ TC.out) ?_); rintro e yx ⟨rfl, hbx⟩; (try replace p0 := keep hbx p0); (try replace p1 := keep hbx p1); (try replace l0 := keep hbx l0); (try replace l1 := keep hbx l1); (try replace l2 := keep hbx l2); (try replace HM3 := Lib.hid (HM3.out.on hbx)); (try replace HM7 := Lib.hid (HM7.out.on hbx)); (try replace HM13 := Lib.hid (HM13.out.on hbx)); (try replace TC := Lib.hid (TC.out.bel hbx)); (try replace T16 := Lib.hid (T16.out.bel hbx)); (first | replace BV := Lib.hid (belowT (show Below w.heap.size w _ by have Bq := BV.out; have Bz := Bq.size; (repeat (first | with_reducible exact Below.refl _ _ | with_reducible assumption | with_reducible refine Below.alloc ?_ (by first | (simp; done) | (simp; omega) | omega) _ | with_reducible refine Below.setCell ?_ (by first | (simp; done) | (simp; omega) | omega) _ | with_reducible refine Below.drew ?_ | with_reducible refine below_drewN ?_ _))) hbx) | have BV := Lib.hid (belowT (show Below w.heap.size w _ by (repeat (first | with_reducible exact Below.refl _ _ | with_reducible assumption | with_reducible refine Below.alloc ?_ (by first | (simp; done) | (simp; omega) | omega) _ | with_reducible refine Below.setCell ?_ (by first | (simp; done) | (simp; omega) | omega) _ | with_reducible refine Below.drew ?_ | with_reducible refine below_drewN ?_ _))) hbx)); clear hbx))
      obtain ⟨b18, hb18⟩ : ∃ b18, yx.heap.size = b18 := ⟨_, rfl⟩
      have hvv : Below yx.heap.size yx (yx.alloc (.cells #[.int .i64 X, .int .i64 Y] 23)) := (Below.refl _ _).alloc (Nat.le_refl _) _
      have p0 : (yx.alloc (.cells #[.int .i64 X, .int .i64 Y] 23)).cell? ⟨b18, 0, none⟩ = some (.int .i64 X) := by rw [← hb18]; simp [go_sem]
      have p1 : (yx.alloc (.cells #[.int .i64 X, .int .i64 Y] 23)).cell? ⟨b18, 1, none⟩ = some (.int .i64 Y) := by rw [← hb18]; simp [go_sem]
      replace T16 := Lib.hid (T16.out.bel hvv)
      replace BV := Lib.hid (belowT BV.out hvv)
      clear hvv
      generalize (yx.alloc (.cells #[.int .i64 X, .int .i64 Y] 23)) = v5 at *
      rw [hb18]
      clear hb18
      go_wp2_with (first
        | (go_at_call 53; (with_reducible refine Calls.mono (HSM.out _ _ _ T16.out) ?_); rintro e yx ⟨rfl, hbx⟩; (try replace p0 := keep hbx p0); (try replace p1 := keep hbx p1); (try replace l0 := keep hbx l0); (try replace l1 := keep hbx l1); (try replace l2 := keep hbx l2); (try replace HM3 := Lib.hid (HM3.out.on hbx)); (try replace HM7 := Lib.hid (HM7.out.on hbx)); (try replace HM13 := Lib.hid (HM13.out.on hbx)); (try replace TC := Lib.hid (TC.out.bel hbx)); (try replace T16 := Lib.hid (T16.out.bel hbx)); (first | replace BV := Lib.hid (belowT (show Below w.heap.size w _ by have Bq := BV.out; have Bz := Bq.size; (repeat (first | with_reducible exact Below.refl _ _ | with_reducible assumption | with_reducible refine Below.alloc ?_ (by first | (simp; done) | (simp; omega) | omega) _ | with_reducible refine Below.setCell ?_ (by first | (simp; done) | (simp; omega) | omega) _ | with_reducible refine Below.drew ?_ | with_reducible refine below_drewN ?_ _))) hbx) | have BV := Lib.hid (belowT (show Below w.heap.size w _ by (repeat (first | with_reducible exact Below.refl _ _ | with_reducible assumption | with_reducible refine Below.alloc ?_ (by first | (simp; done) | (simp; omega) | omega) _ | with_reducible refine Below.setCell ?_ (by first | (simp; done) | (simp; omega) | omega) _ | with_reducible refine Below.drew ?_ | with_reducible refine below_drewN ?_ _))) hbx)); clear hbx)
        | (go_at_call 72; (with_reducible refine Calls.mono (HBM.out _ _ _ T16.out) ?_); rintro e yx ⟨rfl, hbx⟩; (try replace p0 := keep hbx p0); (try replace p1 := keep hbx p1); (try replace l0 := keep hbx l0); (try replace l1 := keep hbx l1); (try replace l2 := keep hbx l2); (try replace HM3 := Lib.hid (HM3.out.on hbx)); (try replace HM7 := Lib.hid (HM7.out.on hbx)); (try replace HM13 := Lib.hid (HM13.out.on hbx)); (try replace TC := Lib.hid (TC.out.bel hbx)); (try replace T16 := Lib.hid (T16.out.bel hbx)); (first | replace BV := Lib.hid (belowT (show Below w.heap.size w _ by have Bq := BV.out; have Bz := Bq.size; (repeat (first | with_reducible exact Below.refl _ _ | with_reducible assumption | with_reducible refine Below.alloc ?_ (by first | (simp; done) | (simp; omega) | omega) _ | with_reducible refine Below.setCell ?_ (by first | (simp; done) | (simp; omega) | omega) _ | with_reducible refine Below.drew ?_ | with_reducible refine below_drewN ?_ _))) hbx) | have BV := Lib.hid (belowT (show Below w.heap.size w _ by (repeat (first | with_reducible exact Below.refl _ _ | with_reducible assumption | with_reducible refine Below.alloc ?_ (by first | (simp; done) | (simp; omega) | omega) _ | with_reducible refine Below.setCell ?_ (by first | (simp; done) | (simp; omega) | omega) _ | with_reducible refine Below.drew ?_ | with_reducible refine below_drewN ?_ _))) hbx)); clear hbx))
      go_ret
      exact ⟨rfl, by have Bq := BV.out; have Bz := Bq.size; (repeat (first | with_reducible exact Below.refl _ _ | with_reducible assumption | with_reducible refine Below.alloc ?_ (by first | (simp; done) | (simp; omega) | omega) _ | with_reducible refine Below.setCell ?_ (by first | (simp; done) | (simp; omega) | omega) _ | with_reducible refine Below.drew ?_ | with_reducible refine below_drewN ?_ _))⟩
end Go.Proofs.Ytpkacfgmojblbaa
