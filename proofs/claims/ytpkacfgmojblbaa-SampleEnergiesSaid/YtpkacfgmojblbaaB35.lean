/- Helpers: four samples that are restored from their bins, in the reference. No condition but the hypotheses that each theorem names. -/
import Derived.Test.YtpkacfgmojblbaaB33
namespace Go.Proofs.Ytpkacfgmojblbaa
open Go.RowKit
attribute [local go_sem] old1 fro1 old2 fro2 old3 fro3 old4 fro4 old5 fro5 old6 fro6 old7 fro7 old8 fro8 old9 fro9 old10 fro10 old11 fro11 old12 fro12
def qc0 : List Bool := [false, false, false, false, false, false, false, false, false, false, false, false, false, false, false, false, false, false, false, true, true, true, true, true, true, true, true, true, true, false, false, false, false, false, false, false, false, false, false, false, false, false, false, false, false, false, false, false, false, false, false, false, false, false, false, false, false, false, false, false, false, false]
set_option maxRecDepth 100000 in
set_option maxHeartbeats 2000000 in
theorem binsErr_any (g : Nat → Int × Int) (w : World) :
    Calls Try.prog 75 #[.agg #[.int .i64 (g 0).1, .int .i64 (g 0).2, .int .i64 (g 1).1, .int .i64 (g 1).2, .int .i64 (g 2).1, .int .i64 (g 2).2, .int .i64 (g 3).1, .int .i64 (g 3).2]] w fun e w' => e = .returned (.int .i64 (b4E 8000 g)) ∧ Below w.heap.size w w' := by
  have HGE := Lib.hid (fun x y W => gaussErr_any x y 8000 (by omega) (by omega) W)
  go_enter Try.func75, Try.ntmps75
  go_upto_region 1 with fail
  have HS : Hid (IM (w.alloc (.cells #[.int .i64 (g 0).1, .int .i64 (g 0).2, .int .i64 (g 1).1, .int .i64 (g 1).2, .int .i64 (g 2).1, .int .i64 (g 2).2, .int .i64 (g 3).1, .int .i64 (g 3).2] 102)) w.heap.size 8 (flt g)) := Lib.hid (im8g _ _ _ (by first | (simp; done) | (simp; omega) | omega) (by simp [go_sem]) (by simp [go_sem]) (by simp [go_sem]) (by simp [go_sem]) (by simp [go_sem]) (by simp [go_sem]) (by simp [go_sem]) (by simp [go_sem]) (by intro i; simp [go_sem]))
  have BV : Hid (Below w.heap.size w (w.alloc (.cells #[.int .i64 (g 0).1, .int .i64 (g 0).2, .int .i64 (g 1).1, .int .i64 (g 1).2, .int .i64 (g 2).1, .int .i64 (g 2).2, .int .i64 (g 3).1, .int .i64 (g 3).2] 102))) := Lib.hid (by (repeat (first | with_reducible exact Below.refl _ _ | with_reducible assumption | with_reducible refine Below.alloc ?_ (by first | (simp; done) | (simp; omega) | omega) _ | with_reducible refine Below.setCell ?_ (by first | (simp; done) | (simp; omega) | omega) _ | with_reducible refine Below.drew ?_ | with_reducible refine below_drewN ?_ _)))
  generalize (w.alloc (.cells #[.int .i64 (g 0).1, .int .i64 (g 0).2, .int .i64 (g 1).1, .int .i64 (g 1).2, .int .i64 (g 2).1, .int .i64 (g 2).2, .int .i64 (g 3).1, .int .i64 (g 3).2] 102)) = v0 at *
  go_wp2_with fail
  go_loopw [3, 4] (fun s3 s4 wr => ∃ i : Nat, i ≤ 4 ∧ s3 = .int .i64 i ∧ Hid (Below w.heap.size w wr) ∧ Hid (IM wr w.heap.size 8 (flt g)) ∧ Hid (b4E 8000 g = ferr (fun i => ptE 8000 (g i)) i (4 - i))) (fun i _ _ => 4 - (intOf i).toNat)
  case atStart => exact ⟨0, Nat.zero_le _, rfl, BV.out, HS.out, rfl⟩
  case round =>
    obtain ⟨i, hi, rfl, HB, HS, H⟩ := hrel
    by_cases hlt : i < 4
    · have c0 := (HS.out.2 (i * 2) (by omega)).1
      have c1 := (HS.out.2 (i * 2 + 1) (by omega)).1
      rw [flt_0] at c0
      rw [flt_1] at c1
      have g1 : (0 : Int) ≤ (i : Int) := by omega
      have g2 : (i : Int) < 4 := by omega
      have HQ : Hid (ferr (fun i => ptE 8000 (g i)) i (4 - i) = if ptE 8000 (g i) = 0 then ferr (fun i => ptE 8000 (g i)) (i + 1) (4 - (i + 1)) else ptE 8000 (g i)) := by
        rw [show 4 - i = (4 - (i + 1)) + 1 from by omega]; rfl
      obtain ⟨E, hE⟩ : ∃ E, ptE 8000 ((g i).1, (g i).2) = E := ⟨_, rfl⟩
      have HEE : Hid (ptE 8000 (g i) = E) := Lib.hid hE
      generalize (g i).1 = x at *
      generalize (g i).2 = y at *
      by_cases he : E = 0
      · subst he
        go_wp2_with (go_at_call 70; (with_reducible refine Calls.mono (HGE.out _ _ _) ?_); rintro e w3 ⟨rfl, hb3⟩; rw [hE]; have HB3 := Lib.hid (belowT HB.out hb3); have HS3 := Lib.hid (HS.out.on hb3); clear hb3)
        go_roundw
        case rel => exact ⟨i + 1, by omega, by go_num, HB3.out, HS3.out, by show b4E 8000 g = _; rw [H.out, HQ.out, if_pos HEE.out]⟩
        case measure => simp [intOf]; omega
      · have hq : (E != 0) = true := by simpa using he
        go_wp2_with (go_at_call 70; (with_reducible refine Calls.mono (HGE.out _ _ _) ?_); rintro e w3 ⟨rfl, hb3⟩; rw [hE]; have HB3 := Lib.hid (belowT HB.out hb3); clear hb3)
        go_ret
        exact ⟨ret_int (by rw [H.out, HQ.out, HEE.out, if_neg he]), HB3.out⟩
    · obtain rfl : i = 4 := by omega
      go_wp2
      go_ret
      exact ⟨ret_int (by rw [H.out]; rfl), HB.out⟩
set_option maxRecDepth 100000 in
set_option maxHeartbeats 800000 in
theorem quarterErr_any (n : Int) (w : World) : Calls Try.prog 67 #[.int .i64 n] w fun e w' => e = .returned (.int .i64 (rgE n 0 3)) ∧ Below w.heap.size w w' := by
  cases hw : wi n 0 3
  · rw [show rgE n 0 3 = 2 by unfold rgE; rw [hw]; rfl]
    go_enter Try.func67, Try.ntmps67
    go_wp2_with (go_at_call 21; (with_reducible refine Calls.mono (bwithin_any _ _ _ _) ?_); rintro e w1 ⟨rfl, rfl⟩)
    go_ret
    exact ⟨rfl, by (repeat (first | with_reducible exact Below.refl _ _ | with_reducible assumption | with_reducible refine Below.alloc ?_ (by first | (simp; done) | (simp; omega) | omega) _ | with_reducible refine Below.setCell ?_ (by first | (simp; done) | (simp; omega) | omega) _ | with_reducible refine Below.drew ?_ | with_reducible refine below_drewN ?_ _))⟩
  · rw [show rgE n 0 3 = 0 by unfold rgE; rw [hw]; rfl]
    go_enter Try.func67, Try.ntmps67
    go_wp2_with (go_at_call 21; (with_reducible refine Calls.mono (bwithin_any _ _ _ _) ?_); rintro e w1 ⟨rfl, rfl⟩)
    go_ret
    exact ⟨rfl, by (repeat (first | with_reducible exact Below.refl _ _ | with_reducible assumption | with_reducible refine Below.alloc ?_ (by first | (simp; done) | (simp; omega) | omega) _ | with_reducible refine Below.setCell ?_ (by first | (simp; done) | (simp; omega) | omega) _ | with_reducible refine Below.drew ?_ | with_reducible refine below_drewN ?_ _))⟩
set_option maxRecDepth 100000 in
set_option maxHeartbeats 4000000 in
theorem binsOfR_any (A : Option Addr) (n c : Nat) (g : Nat → Int × Int) (hE : smE n g = 0) (w : World) (hA : GA w A n g) :
    Calls Try.prog 77 #[.slice A n c] w fun e w' => e = .returned (.agg #[.int .i64 (bnS 0 g n).1, .int .i64 (bnS 0 g n).2, .int .i64 (bnS (-1) g n).1, .int .i64 (bnS (-1) g n).2, .int .i64 (bnS (-2) g n).1, .int .i64 (bnS (-2) g n).2, .int .i64 (bnS (-3) g n).1, .int .i64 (bnS (-3) g n).2]) ∧ Below w.heap.size w w' := by
  obtain ⟨hn, hg⟩ := sm_0 hE
  have HBN := Lib.hid (fun (k : Nat) (hk : k < 4) W (hW : Below w.heap.size w W) => binOfR_any A n c g k W (by omega) (hA.bel hW) (by omega) (by omega) (fun i hi => by have := hg i hi; omega))
  clear hA hE hg
  go_enter Try.func77, Try.ntmps77
  go_upto_region 2 with fail
  have HR : Hid (IM ((w.alloc (.cells #[.int .i64 0, .int .i64 0, .int .i64 0, .int .i64 0, .int .i64 0, .int .i64 0, .int .i64 0, .int .i64 0] 102)).alloc (.cells #[.int .i64 0, .int .i64 0, .int .i64 0, .int .i64 0, .int .i64 0, .int .i64 0, .int .i64 0, .int .i64 0] 102)) w.heap.size 8 (fun _ => 0)) := Lib.hid (im8 _ _ (by first | (simp; done) | (simp; omega) | omega) (by simp [go_sem]) (by simp [go_sem]) (by simp [go_sem]) (by simp [go_sem]) (by simp [go_sem]) (by simp [go_sem]) (by simp [go_sem]) (by simp [go_sem]) (by intro i; simp [go_sem]))
  have HX : Hid (IM ((w.alloc (.cells #[.int .i64 0, .int .i64 0, .int .i64 0, .int .i64 0, .int .i64 0, .int .i64 0, .int .i64 0, .int .i64 0] 102)).alloc (.cells #[.int .i64 0, .int .i64 0, .int .i64 0, .int .i64 0, .int .i64 0, .int .i64 0, .int .i64 0, .int .i64 0] 102)) (w.heap.size + 1) 8 (fun _ => 0)) := Lib.hid (im8 _ _ (by first | (simp; done) | (simp; omega) | omega) (by simp [go_sem]) (by simp [go_sem]) (by simp [go_sem]) (by simp [go_sem]) (by simp [go_sem]) (by simp [go_sem]) (by simp [go_sem]) (by simp [go_sem]) (by intro i; simp [go_sem]))
  have BV : Hid (Below w.heap.size w ((w.alloc (.cells #[.int .i64 0, .int .i64 0, .int .i64 0, .int .i64 0, .int .i64 0, .int .i64 0, .int .i64 0, .int .i64 0] 102)).alloc (.cells #[.int .i64 0, .int .i64 0, .int .i64 0, .int .i64 0, .int .i64 0, .int .i64 0, .int .i64 0, .int .i64 0] 102))) := Lib.hid (by (repeat (first | with_reducible exact Below.refl _ _ | with_reducible assumption | with_reducible refine Below.alloc ?_ (by first | (simp; done) | (simp; omega) | omega) _ | with_reducible refine Below.setCell ?_ (by first | (simp; done) | (simp; omega) | omega) _ | with_reducible refine Below.drew ?_ | with_reducible refine below_drewN ?_ _)))
  generalize ((w.alloc (.cells #[.int .i64 0, .int .i64 0, .int .i64 0, .int .i64 0, .int .i64 0, .int .i64 0, .int .i64 0, .int .i64 0] 102)).alloc (.cells #[.int .i64 0, .int .i64 0, .int .i64 0, .int .i64 0, .int .i64 0, .int .i64 0, .int .i64 0, .int .i64 0] 102)) = v0 at *
  go_wp2_with fail
  go_loopw [4] (fun s4 wr => ∃ k : Nat, k ≤ 4 ∧ s4 = .int .i64 k ∧ Hid (Below w.heap.size w wr) ∧ Hid (IM wr (w.heap.size + 1) 8 (upto (k * 2) (bnF g n))) ∧ Hid (IM wr w.heap.size 8 (fun _ => 0))) (fun i _ => 4 - (intOf i).toNat)
  case atStart => exact ⟨0, Nat.zero_le _, rfl, BV.out, HX.out.same (fun i _ => by simp [upto]), HR.out⟩
  case round =>
    obtain ⟨k, hk, rfl, HB, HI, HR⟩ := hrel
    by_cases hlt : k < 4
    · have HT2 := Lib.hid (HBN.out k hlt _ HB.out)
      have p1 : (0 : Int) ≤ (k : Int) := by omega
      have p2 : (k : Int) < 4 := by omega
      have HF := Lib.hid (And.intro (bnF_0 g n k) (bnF_1 g n k))
      generalize hX : (bnS (-(k : Int)) g n).1 = X at *
      generalize hY : (bnS (-(k : Int)) g n).2 = Y at *
      go_wp2_with (go_at_call 78; (with_reducible refine Calls.mono HT2.out ?_); rintro e z1 ⟨rfl, hz⟩; have HI2 := Lib.hid (HI.out.on hz); have c0 := (HI2.out.2 (k * 2) (by omega)).1; have c1 := (HI2.out.2 (k * 2 + 1) (by omega)).1; have d0 := (HI2.out.2 (k * 2) (by omega)).2; have d1 := (HI2.out.2 (k * 2 + 1) (by omega)).2; have HR2 := Lib.hid (HR.out.on hz); have HB2 := Lib.hid (belowT HB.out hz); clear hz)
      go_roundw
      case rel =>
        refine ⟨k + 1, by omega, by go_num, (HB2.out.setCell (by simp) _).setCell (by simp) _, ((HI2.out.set (k := k * 2) (by omega) X).set (k := k * 2 + 1) (by omega) Y).same (fun i _ => ?_), (HR2.out.far (by simp) _).far (by simp) _⟩
        rw [← bn_step (bnF g n) k i, HF.out.1, HF.out.2]
      case measure => simp [intOf]; omega
    · obtain rfl : k = 4 := by omega
      have r0 := (HR.out.2 0 (by omega)).1; have rz0 := (HR.out.2 0 (by omega)).2; have r1 := (HR.out.2 1 (by omega)).1; have rz1 := (HR.out.2 1 (by omega)).2; have r2 := (HR.out.2 2 (by omega)).1; have rz2 := (HR.out.2 2 (by omega)).2; have r3 := (HR.out.2 3 (by omega)).1; have rz3 := (HR.out.2 3 (by omega)).2; have r4 := (HR.out.2 4 (by omega)).1; have rz4 := (HR.out.2 4 (by omega)).2; have r5 := (HR.out.2 5 (by omega)).1; have rz5 := (HR.out.2 5 (by omega)).2; have r6 := (HR.out.2 6 (by omega)).1; have rz6 := (HR.out.2 6 (by omega)).2; have r7 := (HR.out.2 7 (by omega)).1; have rz7 := (HR.out.2 7 (by omega)).2
      have b0 := (HI.out.2 0 (by omega)).1; have b1 := (HI.out.2 1 (by omega)).1; have b2 := (HI.out.2 2 (by omega)).1; have b3 := (HI.out.2 3 (by omega)).1; have b4 := (HI.out.2 4 (by omega)).1; have b5 := (HI.out.2 5 (by omega)).1; have b6 := (HI.out.2 6 (by omega)).1; have b7 := (HI.out.2 7 (by omega)).1
      rw [show upto (4 * 2) (bnF g n) 0 = (bnS 0 g n).1 from rfl] at b0; rw [show upto (4 * 2) (bnF g n) 1 = (bnS 0 g n).2 from rfl] at b1; rw [show upto (4 * 2) (bnF g n) 2 = (bnS (-1) g n).1 from rfl] at b2; rw [show upto (4 * 2) (bnF g n) 3 = (bnS (-1) g n).2 from rfl] at b3; rw [show upto (4 * 2) (bnF g n) 4 = (bnS (-2) g n).1 from rfl] at b4; rw [show upto (4 * 2) (bnF g n) 5 = (bnS (-2) g n).2 from rfl] at b5; rw [show upto (4 * 2) (bnF g n) 6 = (bnS (-3) g n).1 from rfl] at b6; rw [show upto (4 * 2) (bnF g n) 7 = (bnS (-3) g n).2 from rfl] at b7
      generalize hv0 : (bnS 0 g n).1 = v0 at *; generalize hv1 : (bnS 0 g n).2 = v1 at *; generalize hv2 : (bnS (-1) g n).1 = v2 at *; generalize hv3 : (bnS (-1) g n).2 = v3 at *; generalize hv4 : (bnS (-2) g n).1 = v4 at *; generalize hv5 : (bnS (-2) g n).2 = v5 at *; generalize hv6 : (bnS (-3) g n).1 = v6 at *; generalize hv7 : (bnS (-3) g n).2 = v7 at *
      clear HR HI
      go_wp2
      refine bodyPost_ret (v := .agg #[.int .i64 v0, .int .i64 v1, .int .i64 v2, .int .i64 v3, .int .i64 v4, .int .i64 v5, .int .i64 v6, .int .i64 v7]) (by simp [results, Try.results77, go_sem, *]) rfl ⟨rfl, by have Bq := HB.out; (repeat (first | with_reducible exact Below.refl _ _ | with_reducible assumption | with_reducible refine Below.alloc ?_ (by first | (simp; done) | (simp; omega) | omega) _ | with_reducible refine Below.setCell ?_ (by first | (simp; done) | (simp; omega) | omega) _ | with_reducible refine Below.drew ?_ | with_reducible refine below_drewN ?_ _))⟩
set_option maxRecDepth 100000 in
set_option maxHeartbeats 8000000 in
theorem restoredR_e3 (g : Nat → Int × Int) (f : Nat) (w : World) (hE : b4E 8000 g = 0) (hf : f < 4) (hlo : ∀ j, j < f → rsK g j) (hno : ¬ rsK g f) :
    Calls Try.prog 76 #[.agg #[.int .i64 (g 0).1, .int .i64 (g 0).2, .int .i64 (g 1).1, .int .i64 (g 1).2, .int .i64 (g 2).1, .int .i64 (g 2).2, .int .i64 (g 3).1, .int .i64 (g 3).2]] w fun e w' => e = .returned (.tuple #[.agg #[.int .i64 0, .int .i64 0, .int .i64 0, .int .i64 0, .int .i64 0, .int .i64 0, .int .i64 0, .int .i64 0], .int .i64 3]) ∧ Below w.heap.size w w' := by
  have HG := Lib.hid (b4_bd (by decide) hE)
  have HPW := Lib.hid (fun m W => power_any m W)
  go_enter Try.func76, Try.ntmps76
  go_upto_region 2 with fail
  have HS : Hid (IM (((w.alloc (.cells #[.int .i64 (g 0).1, .int .i64 (g 0).2, .int .i64 (g 1).1, .int .i64 (g 1).2, .int .i64 (g 2).1, .int .i64 (g 2).2, .int .i64 (g 3).1, .int .i64 (g 3).2] 102)).alloc (.cells #[.int .i64 0, .int .i64 0, .int .i64 0, .int .i64 0, .int .i64 0, .int .i64 0, .int .i64 0, .int .i64 0] 102)).alloc (.cells #[.int .i64 0, .int .i64 0, .int .i64 0, .int .i64 0, .int .i64 0, .int .i64 0, .int .i64 0, .int .i64 0] 102)) w.heap.size 8 (flt g)) := Lib.hid (im8g _ _ _ (by first | (simp; done) | (simp; omega) | omega) (by simp [go_sem]) (by simp [go_sem]) (by simp [go_sem]) (by simp [go_sem]) (by simp [go_sem]) (by simp [go_sem]) (by simp [go_sem]) (by simp [go_sem]) (by intro i; simp [go_sem]))
  have HR : Hid (IM (((w.alloc (.cells #[.int .i64 (g 0).1, .int .i64 (g 0).2, .int .i64 (g 1).1, .int .i64 (g 1).2, .int .i64 (g 2).1, .int .i64 (g 2).2, .int .i64 (g 3).1, .int .i64 (g 3).2] 102)).alloc (.cells #[.int .i64 0, .int .i64 0, .int .i64 0, .int .i64 0, .int .i64 0, .int .i64 0, .int .i64 0, .int .i64 0] 102)).alloc (.cells #[.int .i64 0, .int .i64 0, .int .i64 0, .int .i64 0, .int .i64 0, .int .i64 0, .int .i64 0, .int .i64 0] 102)) (w.heap.size + 1) 8 (fun _ => 0)) := Lib.hid (im8 _ _ (by first | (simp; done) | (simp; omega) | omega) (by simp [go_sem]) (by simp [go_sem]) (by simp [go_sem]) (by simp [go_sem]) (by simp [go_sem]) (by simp [go_sem]) (by simp [go_sem]) (by simp [go_sem]) (by intro i; simp [go_sem]))
  have HX : Hid (IM (((w.alloc (.cells #[.int .i64 (g 0).1, .int .i64 (g 0).2, .int .i64 (g 1).1, .int .i64 (g 1).2, .int .i64 (g 2).1, .int .i64 (g 2).2, .int .i64 (g 3).1, .int .i64 (g 3).2] 102)).alloc (.cells #[.int .i64 0, .int .i64 0, .int .i64 0, .int .i64 0, .int .i64 0, .int .i64 0, .int .i64 0, .int .i64 0] 102)).alloc (.cells #[.int .i64 0, .int .i64 0, .int .i64 0, .int .i64 0, .int .i64 0, .int .i64 0, .int .i64 0, .int .i64 0] 102)) (w.heap.size + 2) 8 (fun _ => 0)) := Lib.hid (im8 _ _ (by first | (simp; done) | (simp; omega) | omega) (by simp [go_sem]) (by simp [go_sem]) (by simp [go_sem]) (by simp [go_sem]) (by simp [go_sem]) (by simp [go_sem]) (by simp [go_sem]) (by simp [go_sem]) (by intro i; simp [go_sem]))
  have BV : Hid (Below w.heap.size w (((w.alloc (.cells #[.int .i64 (g 0).1, .int .i64 (g 0).2, .int .i64 (g 1).1, .int .i64 (g 1).2, .int .i64 (g 2).1, .int .i64 (g 2).2, .int .i64 (g 3).1, .int .i64 (g 3).2] 102)).alloc (.cells #[.int .i64 0, .int .i64 0, .int .i64 0, .int .i64 0, .int .i64 0, .int .i64 0, .int .i64 0, .int .i64 0] 102)).alloc (.cells #[.int .i64 0, .int .i64 0, .int .i64 0, .int .i64 0, .int .i64 0, .int .i64 0, .int .i64 0, .int .i64 0] 102))) := Lib.hid (by (repeat (first | with_reducible exact Below.refl _ _ | with_reducible assumption | with_reducible refine Below.alloc ?_ (by first | (simp; done) | (simp; omega) | omega) _ | with_reducible refine Below.setCell ?_ (by first | (simp; done) | (simp; omega) | omega) _ | with_reducible refine Below.drew ?_ | with_reducible refine below_drewN ?_ _)))
  generalize (((w.alloc (.cells #[.int .i64 (g 0).1, .int .i64 (g 0).2, .int .i64 (g 1).1, .int .i64 (g 1).2, .int .i64 (g 2).1, .int .i64 (g 2).2, .int .i64 (g 3).1, .int .i64 (g 3).2] 102)).alloc (.cells #[.int .i64 0, .int .i64 0, .int .i64 0, .int .i64 0, .int .i64 0, .int .i64 0, .int .i64 0, .int .i64 0] 102)).alloc (.cells #[.int .i64 0, .int .i64 0, .int .i64 0, .int .i64 0, .int .i64 0, .int .i64 0, .int .i64 0, .int .i64 0] 102)) = v0 at *
  go_wp2_with fail
  go_loopw [5] (fun s5 wr => ∃ k : Nat, k ≤ f ∧ s5 = .int .i64 k ∧ Hid (Below w.heap.size w wr) ∧ Hid (IM wr w.heap.size 8 (flt g)) ∧ Hid (IM wr (w.heap.size + 1) 8 (fun _ => 0)) ∧ Hid (IM wr (w.heap.size + 2) 8 (upto (k * 2) (flt (rsF g))))) (fun i _ => 4 - (intOf i).toNat)
  case atStart => exact ⟨0, Nat.zero_le _, rfl, BV.out, HS.out, HR.out, HX.out.same (fun i _ => by simp [upto])⟩
  case round =>
    obtain ⟨k, hk, rfl, HB, HS, HR, HX⟩ := hrel
    by_cases h4 : k < 4
    · obtain ⟨wo, rfl⟩ : ∃ wo : World, wo = wr := ⟨_, rfl⟩
      have p2 : (k : Int) < 4 := by omega
      go_upto_region 6 with fail
      have hva : Below wo.heap.size wo (wo.alloc (.cells #[.int .i64 0, .int .i64 0] 23)) := (Below.refl _ _).alloc (Nat.le_refl _) _
      have H6 : Hid (IM (wo.alloc (.cells #[.int .i64 0, .int .i64 0] 23)) wo.heap.size 2 (pr2 0 0)) := Lib.hid ⟨by simp, fun i hi => (by rcases (by omega : i = 0 ∨ i = 1) with rfl | rfl <;> exact ⟨by simp [go_sem, pr2], by simp [go_sem]⟩)⟩
      have HV := Lib.hid hva
      clear hva
      generalize (wo.alloc (.cells #[.int .i64 0, .int .i64 0] 23)) = v1 at *
      generalize hb6 : wo.heap.size = b6 at *
      go_wp2_with fail
      go_loopw [7] (fun s7 wi => ∃ m : Nat, m ≤ 4 ∧ s7 = .int .i64 m ∧ Hid (Below b6 wo wi) ∧ Hid (IM wi b6 2 (pr2 (bnS k g m).1 (bnS k g m).2))) (fun i _ => 4 - (intOf i).toNat)
      case atStart => exact ⟨0, Nat.zero_le _, rfl, HV.out, H6.out⟩
      case round =>
        obtain ⟨m, hm, rfl, HI, H6⟩ := hrel
        have c0 := (H6.out.2 0 (by omega)).1
        have c1 := (H6.out.2 1 (by omega)).1
        have z0 := (H6.out.2 0 (by omega)).2
        have z1 := (H6.out.2 1 (by omega)).2
        replace c0 : wr.cell? ⟨b6, 0, none⟩ = some (.int .i64 (bnS k g m).1) := c0
        replace c1 : wr.cell? ⟨b6, 1, none⟩ = some (.int .i64 (bnS k g m).2) := c1
        by_cases hlt : m < 4
        · have HS5 := HS.out.on (hb6.symm ▸ HI.out)
          have x0 := (HS5.2 (m * 2) (by omega)).1
          have x1 := (HS5.2 (m * 2 + 1) (by omega)).1
          rw [flt_0] at x0
          rw [flt_1] at x1
          have hgk := HG.out m hlt
          have HMU := Lib.hid (fun W => gmulQ ((k : Int) * m) (g m) (by omega) W)
          have hsk := mbd (a := (k : Int)) (b := (m : Int)) (A := 4) (B := 4) (by omega) (by omega) (by omega) (by omega)
          have wk : IntKind.i64.wrap ((k : Int) * (m : Int)) = (k : Int) * m := IntWalk.i64_in _ (by omega)
          obtain ⟨⟨⟨t1, t2⟩, t3, t4⟩, _⟩ := rt_bd (m := (k : Int) * m) (M := 8000) hgk.1.1 hgk.1.2 hgk.2.1 hgk.2.2
          obtain ⟨⟨S1, S2⟩, S3, S4⟩ := bn_bd (s := (k : Int)) (M := 8000) (by omega) HG.out m hm
          have HSs : Hid (bnS k g (m + 1) = ((bnS k g m).1 + (rt ((k : Int) * m) (g m)).1, (bnS k g m).2 + (rt ((k : Int) * m) (g m)).2)) := rfl
          have HAD := Lib.hid (fun W => gadd_any (bnS k g m).1 (bnS k g m).2 (rt ((k : Int) * m) (g m)).1 (rt ((k : Int) * m) (g m)).2 (by omega) (by omega) (by omega) (by omega) (by show _ ≤ rtR ((k : Int) * m) (g m); omega) (by show rtR ((k : Int) * m) (g m) ≤ _; omega) (by show _ ≤ rtI ((k : Int) * m) (g m); omega) (by show rtI ((k : Int) * m) (g m) ≤ _; omega) W)
          have g1 : (0 : Int) ≤ (m : Int) := by omega
          have g2 : (m : Int) < 4 := by omega
          clear hgk hsk t1 t2 t3 t4 S1 S2 S3 S4 HS5
          generalize (g m).1 = gx at *
          generalize (g m).2 = gy at *
          generalize hX : (bnS k g m).1 = X at *
          generalize hY : (bnS k g m).2 = Y at *
          generalize hU : (rt ((k : Int) * m) (g m)).1 = U at *
          generalize hV : (rt ((k : Int) * m) (g m)).2 = Z at *
          obtain ⟨wi, rfl⟩ : ∃ wi : World, wi = wr := ⟨_, rfl⟩
          go_wp2_with fail
          refine wp_region_last [mpEq (.agg #[.int .i64 X, .int .i64 Y]), mpEq (.int .i64 m), mpEq (.pointer (some ⟨w.heap.size, m * 2, none⟩)), mpEq (.agg #[.int .i64 gx, .int .i64 gy]), mpEq (.int .i64 k), mpEq (.int .i64 m), mpEq (.int .i64 ((k : Int) * m)), mpEq (.agg #[.int .i64 (qRe ((k : Int) * m)), .int .i64 (qIm ((k : Int) * m))]), mpEq (.agg #[.int .i64 U, .int .i64 Z]), mpEq (.agg #[.int .i64 (X + U), .int .i64 (Y + Z)])] 10 qc0 (by kernel_rfl) (by kernel_rfl) (by kernel_rfl) rfl (by kernel_rfl) (
                allOps_cons (fun _ a' w' hb hs hd => rg_op fun K hK => by
              have e0 := (hs.get 6 (by kernel_rfl)).trans (show _ = .pointer (some ⟨b6, 0, none⟩) from rfl)
              have ec : ∀ v, a'.eval (.const v) = v := fun _ => rfl
              have c0 := keep hb c0
              have c1 := keep hb c1
              clear hs hd
              unfold Oper.wp
              generalize a'.eval = ρ at e0 ec ⊢
              simp [go_sem, e0, c0, c1]
              exact hK _ _ (Below.refl _ _) rfl) <|
                allOps_cons (fun _ a' w' hb hs hd => rg_op fun K hK => by
              have e0 := (hs.get 7 (by kernel_rfl)).trans (show _ = .int .i64 m from rfl)
              have ec : ∀ v, a'.eval (.const v) = v := fun _ => rfl
              clear hs hd
              unfold Oper.wp
              generalize a'.eval = ρ at e0 ec ⊢
              simp [go_sem, e0]
              exact hK _ _ (Below.refl _ _) rfl) <|
                allOps_cons (fun _ a' w' hb hs hd => rg_op fun K hK => by
              have e0 := (hs.get 1 (by kernel_rfl)).trans (show _ = .pointer (some ⟨w.heap.size, 0, none⟩) from rfl)
              have e1 := (show a'.eval (.tmp 20) = .int .i64 m from hd.get 1 20 (by kernel_rfl) (by kernel_rfl))
              have ec : ∀ v, a'.eval (.const v) = v := fun _ => rfl
              clear hs hd
              unfold Oper.wp
              generalize a'.eval = ρ at e0 e1 ec ⊢
              simp [go_sem, e0, e1, g1, g2]
              exact hK _ _ (Below.refl _ _) rfl) <|
                allOps_cons (fun _ a' w' hb hs hd => rg_op fun K hK => by
              have e0 := (show a'.eval (.tmp 21) = .pointer (some ⟨w.heap.size, m * 2, none⟩) from hd.get 2 21 (by kernel_rfl) (by kernel_rfl))
              have ec : ∀ v, a'.eval (.const v) = v := fun _ => rfl
              have c0 := keep hb x0
              have c1 := keep hb x1
              clear hs hd
              unfold Oper.wp
              generalize a'.eval = ρ at e0 ec ⊢
              simp [go_sem, e0, c0, c1]
              exact hK _ _ (Below.refl _ _) rfl) <|
                allOps_cons (fun _ a' w' hb hs hd => rg_op fun K hK => by
              have e0 := (hs.get 5 (by kernel_rfl)).trans (show _ = .int .i64 k from rfl)
              have ec : ∀ v, a'.eval (.const v) = v := fun _ => rfl
              clear hs hd
              unfold Oper.wp
              generalize a'.eval = ρ at e0 ec ⊢
              simp [go_sem, e0]
              exact hK _ _ (Below.refl _ _) rfl) <|
                allOps_cons (fun _ a' w' hb hs hd => rg_op fun K hK => by
              have e0 := (hs.get 7 (by kernel_rfl)).trans (show _ = .int .i64 m from rfl)
              have ec : ∀ v, a'.eval (.const v) = v := fun _ => rfl
              clear hs hd
              unfold Oper.wp
              generalize a'.eval = ρ at e0 ec ⊢
              simp [go_sem, e0]
              exact hK _ _ (Below.refl _ _) rfl) <|
                allOps_cons (fun _ a' w' hb hs hd => rg_op fun K hK => by
              have e0 := (show a'.eval (.tmp 23) = .int .i64 k from hd.get 4 23 (by kernel_rfl) (by kernel_rfl))
              have e1 := (show a'.eval (.tmp 24) = .int .i64 m from hd.get 5 24 (by kernel_rfl) (by kernel_rfl))
              have ec : ∀ v, a'.eval (.const v) = v := fun _ => rfl
              clear hs hd
              unfold Oper.wp
              generalize a'.eval = ρ at e0 e1 ec ⊢
              simp [go_sem, e0, e1, wk]
              exact hK _ _ (Below.refl _ _) rfl) <|
                allOps_cons (fun _ a' w' hb hs hd => by
              exact rg_fn (φ := (mpEq (.agg #[.int .i64 (qRe ((k : Int) * m)), .int .i64 (qIm ((k : Int) * m))])).p) (vs := #[.int .i64 ((k : Int) * m)]) rfl (enters_of Try.func112 (by kernel_rfl) rfl) (by simp [(show a'.eval (.tmp 25) = .int .i64 ((k : Int) * m) from hd.get 6 25 (by kernel_rfl) (by kernel_rfl))]) ((HPW.out ((k : Int) * m) w').mono (by rintro e w1 ⟨rfl, h1⟩; exact ⟨_, rfl, h1, rfl⟩))) <|
                allOps_cons (fun _ a' w' hb hs hd => by
              exact rg_fn (φ := (mpEq (.agg #[.int .i64 U, .int .i64 Z])).p) (vs := #[.agg #[.int .i64 gx, .int .i64 gy], .agg #[.int .i64 (qRe ((k : Int) * m)), .int .i64 (qIm ((k : Int) * m))]]) rfl (enters_of Try.func71 (by kernel_rfl) rfl) (by simp [(show a'.eval (.tmp 22) = .agg #[.int .i64 gx, .int .i64 gy] from hd.get 3 22 (by kernel_rfl) (by kernel_rfl)), (show a'.eval (.tmp 26) = .agg #[.int .i64 (qRe ((k : Int) * m)), .int .i64 (qIm ((k : Int) * m))] from hd.get 7 26 (by kernel_rfl) (by kernel_rfl))]) ((HMU.out w').mono (by rintro e w1 ⟨rfl, h1⟩; exact ⟨_, rfl, h1, rfl⟩))) <|
                allOps_cons (fun _ a' w' hb hs hd => by
              exact rg_fn (φ := (mpEq (.agg #[.int .i64 (X + U), .int .i64 (Y + Z)])).p) (vs := #[.agg #[.int .i64 X, .int .i64 Y], .agg #[.int .i64 U, .int .i64 Z]]) rfl (enters_of Try.func122 (by kernel_rfl) rfl) (by simp [(show a'.eval (.tmp 19) = .agg #[.int .i64 X, .int .i64 Y] from hd.get 0 19 (by kernel_rfl) (by kernel_rfl)), (show a'.eval (.tmp 27) = .agg #[.int .i64 U, .int .i64 Z] from hd.get 8 27 (by kernel_rfl) (by kernel_rfl))]) ((HAD.out w').mono (by rintro e w1 ⟨rfl, h1⟩; exact ⟨_, rfl, h1, rfl⟩))) <| allOps_cons (fun h => absurd rfl h) <| allOps_nil) (fun V v2 hv2 hall K hK => ?_)
          have h28 : V 28 = .agg #[.int .i64 (X + U), .int .i64 (Y + Z)] := hall.get 9 rfl (by decide)
          clear hall
          have H61 := Lib.hid (H6.out.on hv2)
          refine op_stG (q := b6) (o := 0) rfl rfl h28 (H61.out.2 0 (by omega)).1 (H61.out.2 1 (by omega)).1 (H61.out.2 0 (by omega)).2 (H61.out.2 1 (by omega)).2 ?_
          refine hK _ _ ?_
          simp only [qc0, maskPut, Nat.reduceAdd]
          have hbi : b6 ≤ wi.heap.size := by have := HI.out.size; omega
          have HI1 := Lib.hid (HI.out.trans (hv2.mono hbi))
          clear h28 hK hv2
          go_wp2
          go_roundw
          case rel => exact ⟨m + 1, by omega, by go_num, (HI1.out.setCell (Nat.le_refl _) _).setCell (Nat.le_refl _) _, ((H61.out.set (k := 0) (by omega) _).set (k := 1) (by omega) _).same (fun i hi => (by rw [HSs.out]; rcases (by omega : i = 0 ∨ i = 1) with rfl | rfl <;> rfl))⟩
          case measure => simp [intOf]; omega
        · obtain rfl : m = 4 := by omega
          have hBI : Below wo.heap.size wo wr := hb6.symm ▸ HI.out
          have HS2 := Lib.hid (HS.out.on hBI)
          have HR2 := Lib.hid (HR.out.on hBI)
          have HX2 := Lib.hid (HX.out.on hBI)
          have HB2 := Lib.hid (belowT HB.out hBI)
          have hbk := bn_bd (s := (k : Int)) (M := 8000) (by omega) HG.out 4 (Nat.le_refl _)
          have hd1 := tdiv_bd (bnS k g 4).1 4 (by omega) (by omega) (by omega)
          have hd2 := tdiv_bd (bnS k g 4).2 4 (by omega) (by omega) (by omega)
          have t1 := Int.tdiv_mul_add_tmod (bnS k g 4).1 4
          have t2 := Int.tdiv_mul_add_tmod (bnS k g 4).2 4
          have x1 : IntKind.i64.wrap ((bnS k g 4).1.tdiv 4) = (bnS k g 4).1.tdiv 4 := IntWalk.i64_in _ (by omega)
          have x2 : IntKind.i64.wrap ((bnS k g 4).2.tdiv 4) = (bnS k g 4).2.tdiv 4 := IntWalk.i64_in _ (by omega)
          have tb1 := tmod_plain (bnS k g 4).1 4 (by omega)
          have tb2 := tmod_plain (bnS k g 4).2 4 (by omega)
          have x3 : IntKind.i64.wrap ((bnS k g 4).1.tmod 4) = (bnS k g 4).1.tmod 4 := IntWalk.i64_in _ (by omega)
          have x4 : IntKind.i64.wrap ((bnS k g 4).2.tmod 4) = (bnS k g 4).2.tmod 4 := IntWalk.i64_in _ (by omega)
          have hF0 : Hid (flt (rsF g) (k * 2) = (bnS k g 4).1.tdiv 4 ∧ flt (rsF g) (k * 2 + 1) = (bnS k g 4).2.tdiv 4) := Lib.hid ⟨flt_0 _ k, flt_1 _ k⟩
          have c2 := (HX2.out.2 (k * 2) (by omega)).1
          have c3 := (HX2.out.2 (k * 2 + 1) (by omega)).1
          have d2 := (HX2.out.2 (k * 2) (by omega)).2
          have d3 := (HX2.out.2 (k * 2 + 1) (by omega)).2
          have p1 : (0 : Int) ≤ (k : Int) := by omega
          have hbb : w.heap.size + 2 < b6 := hb6 ▸ HX.out.1
          clear hbk hd1 hd2 t1 t2 tb1 tb2 hBI HI HS HR HX HB H6 z0 z1 HV
          by_cases hkf : k < f
          · have hok := hlo k hkf
            unfold rsK at hok
            have q1 : ((bnS k g 4).1.tmod 4 != 0) = false := by simpa using hok.1
            have q2 : ((bnS k g 4).2.tmod 4 != 0) = false := by simpa using hok.2
            clear hok
            generalize (bnS k g 4).1 = re at *
            generalize (bnS k g 4).2 = im at *
            generalize hX1 : re.tdiv 4 = X at *
            generalize hY1 : im.tdiv 4 = Y at *
            generalize hrm : re.tmod 4 = rm at *
            generalize hsm : im.tmod 4 = sm at *
            go_wp2
            go_roundw
            case rel =>
              refine ⟨k + 1, by omega, by go_num, (HB2.out.setCell (by show w.heap.size ≤ w.heap.size + 2; omega) _).setCell (by show w.heap.size ≤ w.heap.size + 2; omega) _, (HS2.out.far (by show w.heap.size ≠ w.heap.size + 2; omega) _).far (by show w.heap.size ≠ w.heap.size + 2; omega) _, (HR2.out.far (by show w.heap.size + 1 ≠ w.heap.size + 2; omega) _).far (by show w.heap.size + 1 ≠ w.heap.size + 2; omega) _, ((HX2.out.set (k := k * 2) (by omega) X).set (k := k * 2 + 1) (by omega) Y).same (fun i _ => ?_)⟩
              rw [← bn_step (flt (rsF g)) k i, hF0.out.1, hF0.out.2]
            case measure => simp [intOf]; omega
          · obtain rfl : k = f := by omega
            unfold rsK at hno
            by_cases c9 : (bnS k g 4).1.tmod 4 = 0
            · have q1 : ((bnS k g 4).1.tmod 4 != 0) = false := by simpa using c9
              have q2 : ((bnS k g 4).2.tmod 4 != 0) = true := by simp; exact fun h => hno ⟨c9, h⟩
              clear hno c9
              have r0 := (HR2.out.2 0 (by omega)).1; have rz0 := (HR2.out.2 0 (by omega)).2; have r1 := (HR2.out.2 1 (by omega)).1; have rz1 := (HR2.out.2 1 (by omega)).2; have r2 := (HR2.out.2 2 (by omega)).1; have rz2 := (HR2.out.2 2 (by omega)).2; have r3 := (HR2.out.2 3 (by omega)).1; have rz3 := (HR2.out.2 3 (by omega)).2; have r4 := (HR2.out.2 4 (by omega)).1; have rz4 := (HR2.out.2 4 (by omega)).2; have r5 := (HR2.out.2 5 (by omega)).1; have rz5 := (HR2.out.2 5 (by omega)).2; have r6 := (HR2.out.2 6 (by omega)).1; have rz6 := (HR2.out.2 6 (by omega)).2; have r7 := (HR2.out.2 7 (by omega)).1; have rz7 := (HR2.out.2 7 (by omega)).2
              generalize (bnS k g 4).1 = re at *
              generalize (bnS k g 4).2 = im at *
              generalize hrm : re.tmod 4 = rm at *
              generalize hsm : im.tmod 4 = sm at *
              clear HX2 HS2 c2 c3 d2 d3
              go_wp2
              refine bodyPost_ret (v := .tuple #[.agg #[.int .i64 0, .int .i64 0, .int .i64 0, .int .i64 0, .int .i64 0, .int .i64 0, .int .i64 0, .int .i64 0], .int .i64 3]) (by simp [results, Try.results76, go_sem, *]) rfl ⟨rfl, by have Bq := HB2.out; (repeat (first | with_reducible exact Below.refl _ _ | with_reducible assumption | with_reducible refine Below.alloc ?_ (by first | (simp; done) | (simp; omega) | omega) _ | with_reducible refine Below.setCell ?_ (by first | (simp; done) | (simp; omega) | omega) _ | with_reducible refine Below.drew ?_ | with_reducible refine below_drewN ?_ _))⟩
            · have q1 : ((bnS k g 4).1.tmod 4 != 0) = true := by simpa using c9
              clear hno c9
              have r0 := (HR2.out.2 0 (by omega)).1; have rz0 := (HR2.out.2 0 (by omega)).2; have r1 := (HR2.out.2 1 (by omega)).1; have rz1 := (HR2.out.2 1 (by omega)).2; have r2 := (HR2.out.2 2 (by omega)).1; have rz2 := (HR2.out.2 2 (by omega)).2; have r3 := (HR2.out.2 3 (by omega)).1; have rz3 := (HR2.out.2 3 (by omega)).2; have r4 := (HR2.out.2 4 (by omega)).1; have rz4 := (HR2.out.2 4 (by omega)).2; have r5 := (HR2.out.2 5 (by omega)).1; have rz5 := (HR2.out.2 5 (by omega)).2; have r6 := (HR2.out.2 6 (by omega)).1; have rz6 := (HR2.out.2 6 (by omega)).2; have r7 := (HR2.out.2 7 (by omega)).1; have rz7 := (HR2.out.2 7 (by omega)).2
              generalize (bnS k g 4).1 = re at *
              generalize (bnS k g 4).2 = im at *
              generalize hrm : re.tmod 4 = rm at *
              clear HX2 HS2 c2 c3 d2 d3
              go_wp2
              refine bodyPost_ret (v := .tuple #[.agg #[.int .i64 0, .int .i64 0, .int .i64 0, .int .i64 0, .int .i64 0, .int .i64 0, .int .i64 0, .int .i64 0], .int .i64 3]) (by simp [results, Try.results76, go_sem, *]) rfl ⟨rfl, by have Bq := HB2.out; (repeat (first | with_reducible exact Below.refl _ _ | with_reducible assumption | with_reducible refine Below.alloc ?_ (by first | (simp; done) | (simp; omega) | omega) _ | with_reducible refine Below.setCell ?_ (by first | (simp; done) | (simp; omega) | omega) _ | with_reducible refine Below.drew ?_ | with_reducible refine below_drewN ?_ _))⟩
    · omega
end Go.Proofs.Ytpkacfgmojblbaa
