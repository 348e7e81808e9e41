/- Helpers: the law SampleBins. No condition but the hypotheses that each theorem names. -/
import Derived.Test.YtpkacfgmojblbaaB37
namespace Go.Proofs.Ytpkacfgmojblbaa
open Go.RowKit
attribute [local go_sem] old1 fro1 old2 fro2 old3 fro3 old4 fro4 old5 fro5 old6 fro6 old7 fro7 old8 fro8 old9 fro9 old10 fro10 old11 fro11 old12 fro12
def qf0 : List Bool := [false, false, false, false, false, false, false, false, false, false, false, false, false, false, false, false, false, false, false, false, false, false, false, false, false, false, false, false, false, false, false, false, false, false, false, false, false, false, false, false, false, false, false, false, false, false, false, false, false, false, false, false, false, false, false, false, false, false, false, false, false, false, false, false, false, false, false, false, false, false, false, false, false, false, false, false, false, false, false, true, true, true, true, true, true, true, true, false, false, false, false, false, false, false, false, false, false, false, false, false, false, false, false, false, false, false, false, false]
def qf1 : List Bool := [false, false, false, false, false, false, true, false, false, false, false, false, false, false, false, false, false, false, false, false, false, false, false, false, false, false, false, false, false, false, false, false, false, false, false, false, false, false, false, false, false, false, false, false, false, false, false, false, false, false, false, false, false, false, false, false, false, false, false, false, false, false, false, false, false, false, false, false, false, false, false, false, false, false, false, false, false, false, false, false, false, false, false, false, false, false, false, false, false, false, false, false, false, false, false, false, false, false, false, true, true, true, true, true, true, true, true, true]
theorem binOfS_all (A : Option Addr) (n c : Nat) (g : Nat → Int × Int) (q E X Y : Int) (hE : boE n g q = E) (h0 : E = 0 → X = (bnS (-q) g n).1 ∧ Y = (bnS (-q) g n).2) (h1 : E ≠ 0 → X = 0 ∧ Y = 0) (w : World) (hn : n ≤ 1000000000) (hA : GA w A n g) :
    Calls Try.prog 72 #[.slice A n c, .int .i64 q] w fun e w' => e = .returned (.tuple #[.agg #[.int .i64 X, .int .i64 Y], .int .i64 E]) ∧ Below w.heap.size w w' := by
  by_cases q0 : E = 0
  · obtain ⟨rfl, rfl⟩ := h0 q0
    subst q0
    exact binOfS_ok A n c g q hE w hA
  · obtain ⟨rfl, rfl⟩ := h1 q0
    exact binOfS_err A n c g q E hE q0 w hn hA
theorem binsOfS_all (A : Option Addr) (n c : Nat) (g : Nat → Int × Int) (E : Int) (F : Nat → Int) (hE : smE n g = E) (h0 : E = 0 → F = bnF g n) (h1 : E ≠ 0 → F = fun _ => 0) (w : World) (hn : n ≤ 1000000000) (hA : GA w A n g) :
    Calls Try.prog 73 #[.slice A n c] w fun e w' => e = .returned (.tuple #[.agg (arr F), .int .i64 E]) ∧ Below w.heap.size w w' := by
  by_cases q0 : E = 0
  · obtain rfl := h0 q0
    subst q0
    exact binsOf_ok A n c g hE w hA
  · obtain rfl := h1 q0
    exact binsOf_err A n c g E hE q0 w hn hA
theorem binsOfR_arr (A : Option Addr) (n c : Nat) (g : Nat → Int × Int) (hE : smE n g = 0) (w : World) (hA : GA w A n g) :
    Calls Try.prog 77 #[.slice A n c] w fun e w' => e = .returned (.agg (arr (bnF g n))) ∧ Below w.heap.size w w' := binsOfR_any A n c g hE w hA
theorem restoredS_bad (g : Nat → Int × Int) (E : Int) (hE : b4E 8000 g = E) (h0 : E ≠ 0) (w : World) : Calls Try.prog 74 #[.agg (arr (flt g))] w fun e w' => e = .returned (.tuple #[.agg (arr fun _ => 0), .int .i64 E]) ∧ Below w.heap.size w w' := restoredS_e0 g E w hE h0
theorem binsErr_arr (g : Nat → Int × Int) (w : World) : Calls Try.prog 75 #[.agg (arr (flt g))] w fun e w' => e = .returned (.int .i64 (b4E 8000 g)) ∧ Below w.heap.size w w' := binsErr_any g w
set_option maxRecDepth 100000 in
set_option maxHeartbeats 800000 in
theorem sb_many (A : Option Addr) (n c : Nat) (q : Int) (h : Nat → Int × Int) (w : World) (hs : shr n = false) :
    Calls Try.prog 12 #[.slice A n c, .int .i64 q, .agg (arr (flt h))] w fun e w' => e = .returned (.bool true) ∧ Below w.heap.size w w' := by
  have HSH := Lib.hid (fun W => short_any A n c W)
  rw [hs] at HSH
  go_enter Try.func12, Try.ntmps12
  go_wp2_with (first
    | (go_at_call 17; (with_reducible refine Calls.mono (awake_any _) ?_); rintro e yx ⟨rfl, hbx⟩; (try replace p0 := keep hbx p0); (try replace p1 := keep hbx p1); (try replace HM5 := Lib.hid (HM5.out.on hbx)); (try replace HM9 := Lib.hid (HM9.out.on hbx)); (try replace HM11 := Lib.hid (HM11.out.on hbx)); (try replace HM14 := Lib.hid (HM14.out.on hbx)); (try replace TC := Lib.hid (TC.out.bel hbx)); (first | replace BV := Lib.hid (belowT (show Below w.heap.size w _ by have Bq := BV.out; have Bz := Bq.size; (repeat (first | with_reducible exact Below.refl _ _ | with_reducible assumption | with_reducible refine Below.alloc ?_ (by first | (simp; done) | (simp; omega) | omega) _ | with_reducible refine Below.setCell ?_ (by first | (simp; done) | (simp; omega) | omega) _ | with_reducible refine Below.drew ?_ | with_reducible refine below_drewN ?_ _))) hbx) | have BV := Lib.hid (belowT (show Below w.heap.size w _ by (repeat (first | with_reducible exact Below.refl _ _ | with_reducible assumption | with_reducible refine Below.alloc ?_ (by first | (simp; done) | (simp; omega) | omega) _ | with_reducible refine Below.setCell ?_ (by first | (simp; done) | (simp; omega) | omega) _ | with_reducible refine Below.drew ?_ | with_reducible refine below_drewN ?_ _))) hbx)); clear hbx)
    | (go_at_call 47; (with_reducible refine Calls.mono (HSH.out _) ?_); rintro e yx ⟨rfl, hbx⟩; (try replace p0 := keep hbx p0); (try replace p1 := keep hbx p1); (try replace HM5 := Lib.hid (HM5.out.on hbx)); (try replace HM9 := Lib.hid (HM9.out.on hbx)); (try replace HM11 := Lib.hid (HM11.out.on hbx)); (try replace HM14 := Lib.hid (HM14.out.on hbx)); (try replace TC := Lib.hid (TC.out.bel hbx)); (first | replace BV := Lib.hid (belowT (show Below w.heap.size w _ by have Bq := BV.out; have Bz := Bq.size; (repeat (first | with_reducible exact Below.refl _ _ | with_reducible assumption | with_reducible refine Below.alloc ?_ (by first | (simp; done) | (simp; omega) | omega) _ | with_reducible refine Below.setCell ?_ (by first | (simp; done) | (simp; omega) | omega) _ | with_reducible refine Below.drew ?_ | with_reducible refine below_drewN ?_ _))) hbx) | have BV := Lib.hid (belowT (show Below w.heap.size w _ by (repeat (first | with_reducible exact Below.refl _ _ | with_reducible assumption | with_reducible refine Below.alloc ?_ (by first | (simp; done) | (simp; omega) | omega) _ | with_reducible refine Below.setCell ?_ (by first | (simp; done) | (simp; omega) | omega) _ | with_reducible refine Below.drew ?_ | with_reducible refine below_drewN ?_ _))) hbx)); clear hbx))
  go_ret
  exact ⟨rfl, BV.out⟩
set_option maxRecDepth 100000 in
set_option maxHeartbeats 4000000 in
theorem sb_dA (A : Option Addr) (n c : Nat) (g : Nat → Int × Int) (q : Int) (h : Nat → Int × Int) (D : Int) (D0 : D ≠ 0) (S : Int) (S0 : S ≠ 0) (w : World) (hs : shr n = true) (hD : smE n g = D) (hB : b4E 8000 h = S) (hG : GS w (.slice A n c) n g) :
    Calls Try.prog 12 #[.slice A n c, .int .i64 q, .agg (arr (flt h))] w fun e w' => e = .returned (.bool true) ∧ Below w.heap.size w w' := by
  have hn : n ≤ 404 := by unfold shr at hs; simp at hs; omega
  have hA : GA w A n g := by obtain ⟨A', c', e, h, _⟩ := hG; cases e; exact h
  have hE : boE n g q = D := by unfold boE fs2; rw [hD, if_neg D0]
  have HSH := Lib.hid (fun W => short_any A n c W)
  rw [hs] at HSH
  have HCG := Lib.hid (fun W (hW : Below w.heap.size w W) => copyG_any (.slice A n c) n g W (by omega) (hG.on hW))
  have HBO := Lib.hid (fun A1 c1 W (h : GA W A1 n g) => binOfS_all A1 n c1 g q (D) 0 0 hE (fun e => absurd e D0) (fun _ => ⟨rfl, rfl⟩) W (by omega) h)
  have HBS := Lib.hid (fun A1 c1 W (h : GA W A1 n g) => binsOfS_all A1 n c1 g (D) (fun _ => 0) hD (fun e => absurd e D0) (fun _ => rfl) W (by omega) h)
  have HSE := Lib.hid (fun W (hW : Below w.heap.size w W) => samplesErr_any A n c g W (by omega) (hA.bel hW))
  rw [hD] at HSE
  have HBE := Lib.hid (fun W => binsErr_arr h W)
  rw [hB] at HBE
  have HRS := Lib.hid (fun W => restoredS_bad h S hB S0 W)
  have d1 : (D == 0) = false := by simpa using D0
  have d2 : (D != 0) = true := by simpa using D0
  have s1 : (S == 0) = false := by simpa using S0
  have s2 : (S != 0) = true := by simpa using S0
  clear hA hG hE hs hD hB D0 S0
  go_enter Try.func12, Try.ntmps12
  go_upto_region 6 with (first
    | (go_at_call 17; (with_reducible refine Calls.mono (awake_any _) ?_); rintro e yx ⟨rfl, hbx⟩; (try replace p0 := keep hbx p0); (try replace p1 := keep hbx p1); (try replace HM5 := Lib.hid (HM5.out.on hbx)); (try replace HM9 := Lib.hid (HM9.out.on hbx)); (try replace HM11 := Lib.hid (HM11.out.on hbx)); (try replace HM14 := Lib.hid (HM14.out.on hbx)); (try replace TC := Lib.hid (TC.out.bel hbx)); (first | replace BV := Lib.hid (belowT (show Below w.heap.size w _ by have Bq := BV.out; have Bz := Bq.size; (repeat (first | with_reducible exact Below.refl _ _ | with_reducible assumption | with_reducible refine Below.alloc ?_ (by first | (simp; done) | (simp; omega) | omega) _ | with_reducible refine Below.setCell ?_ (by first | (simp; done) | (simp; omega) | omega) _ | with_reducible refine Below.drew ?_ | with_reducible refine below_drewN ?_ _))) hbx) | have BV := Lib.hid (belowT (show Below w.heap.size w _ by (repeat (first | with_reducible exact Below.refl _ _ | with_reducible assumption | with_reducible refine Below.alloc ?_ (by first | (simp; done) | (simp; omega) | omega) _ | with_reducible refine Below.setCell ?_ (by first | (simp; done) | (simp; omega) | omega) _ | with_reducible refine Below.drew ?_ | with_reducible refine below_drewN ?_ _))) hbx)); have HM5 : Hid (IM yx w.heap.size 8 (flt h)) := Lib.hid (IM.on (arr_im w (flt h) 102) hbx); clear hbx)
    | (go_at_call 47; (with_reducible refine Calls.mono (HSH.out _) ?_); rintro e yx ⟨rfl, hbx⟩; (try replace p0 := keep hbx p0); (try replace p1 := keep hbx p1); (try replace HM5 := Lib.hid (HM5.out.on hbx)); (try replace HM9 := Lib.hid (HM9.out.on hbx)); (try replace HM11 := Lib.hid (HM11.out.on hbx)); (try replace HM14 := Lib.hid (HM14.out.on hbx)); (try replace TC := Lib.hid (TC.out.bel hbx)); (first | replace BV := Lib.hid (belowT (show Below w.heap.size w _ by have Bq := BV.out; have Bz := Bq.size; (repeat (first | with_reducible exact Below.refl _ _ | with_reducible assumption | with_reducible refine Below.alloc ?_ (by first | (simp; done) | (simp; omega) | omega) _ | with_reducible refine Below.setCell ?_ (by first | (simp; done) | (simp; omega) | omega) _ | with_reducible refine Below.drew ?_ | with_reducible refine below_drewN ?_ _))) hbx) | have BV := Lib.hid (belowT (show Below w.heap.size w _ by (repeat (first | with_reducible exact Below.refl _ _ | with_reducible assumption | with_reducible refine Below.alloc ?_ (by first | (simp; done) | (simp; omega) | omega) _ | with_reducible refine Below.setCell ?_ (by first | (simp; done) | (simp; omega) | omega) _ | with_reducible refine Below.drew ?_ | with_reducible refine below_drewN ?_ _))) hbx)); clear hbx)
    | (go_at_call 49; (with_reducible refine Calls.mono (HCG.out _ BV.out) ?_); rintro e yx ⟨vc, rfl, hbx, Ac, cc, rfl, hGc, _⟩; (try replace p0 := keep hbx p0); (try replace p1 := keep hbx p1); (try replace HM5 := Lib.hid (HM5.out.on hbx)); (try replace HM9 := Lib.hid (HM9.out.on hbx)); (try replace HM11 := Lib.hid (HM11.out.on hbx)); (try replace HM14 := Lib.hid (HM14.out.on hbx)); (try replace TC := Lib.hid (TC.out.bel hbx)); (first | replace BV := Lib.hid (belowT (show Below w.heap.size w _ by have Bq := BV.out; have Bz := Bq.size; (repeat (first | with_reducible exact Below.refl _ _ | with_reducible assumption | with_reducible refine Below.alloc ?_ (by first | (simp; done) | (simp; omega) | omega) _ | with_reducible refine Below.setCell ?_ (by first | (simp; done) | (simp; omega) | omega) _ | with_reducible refine Below.drew ?_ | with_reducible refine below_drewN ?_ _))) hbx) | have BV := Lib.hid (belowT (show Below w.heap.size w _ by (repeat (first | with_reducible exact Below.refl _ _ | with_reducible assumption | with_reducible refine Below.alloc ?_ (by first | (simp; done) | (simp; omega) | omega) _ | with_reducible refine Below.setCell ?_ (by first | (simp; done) | (simp; omega) | omega) _ | with_reducible refine Below.drew ?_ | with_reducible refine below_drewN ?_ _))) hbx)); have TC := Lib.hid hGc; clear hGc; clear hbx)
    | (go_at_call 72; (with_reducible refine Calls.mono (HBO.out _ _ _ TC.out) ?_); rintro e yx ⟨rfl, hbx⟩; (try replace p0 := keep hbx p0); (try replace p1 := keep hbx p1); (try replace HM5 := Lib.hid (HM5.out.on hbx)); (try replace HM9 := Lib.hid (HM9.out.on hbx)); (try replace HM11 := Lib.hid (HM11.out.on hbx)); (try replace HM14 := Lib.hid (HM14.out.on hbx)); (try replace TC := Lib.hid (TC.out.bel hbx)); (first | replace BV := Lib.hid (belowT (show Below w.heap.size w _ by have Bq := BV.out; have Bz := Bq.size; (repeat (first | with_reducible exact Below.refl _ _ | with_reducible assumption | with_reducible refine Below.alloc ?_ (by first | (simp; done) | (simp; omega) | omega) _ | with_reducible refine Below.setCell ?_ (by first | (simp; done) | (simp; omega) | omega) _ | with_reducible refine Below.drew ?_ | with_reducible refine below_drewN ?_ _))) hbx) | have BV := Lib.hid (belowT (show Below w.heap.size w _ by (repeat (first | with_reducible exact Below.refl _ _ | with_reducible assumption | with_reducible refine Below.alloc ?_ (by first | (simp; done) | (simp; omega) | omega) _ | with_reducible refine Below.setCell ?_ (by first | (simp; done) | (simp; omega) | omega) _ | with_reducible refine Below.drew ?_ | with_reducible refine below_drewN ?_ _))) hbx)); clear hbx))
  obtain ⟨b7, hb7⟩ : ∃ b7, yx.heap.size = b7 := ⟨_, rfl⟩
  have hvv : Below yx.heap.size yx (yx.alloc (.cells #[.int .i64 0, .int .i64 0] 23)) := (Below.refl _ _).alloc (Nat.le_refl _) _
  have p0 : (yx.alloc (.cells #[.int .i64 0, .int .i64 0] 23)).cell? ⟨b7, 0, none⟩ = some (.int .i64 0) := by rw [← hb7]; simp [go_sem]
  have p1 : (yx.alloc (.cells #[.int .i64 0, .int .i64 0] 23)).cell? ⟨b7, 1, none⟩ = some (.int .i64 0) := by rw [← hb7]; simp [go_sem]
  replace HM5 := Lib.hid (HM5.out.on hvv)
  replace BV := Lib.hid (belowT BV.out hvv)
  clear hvv
  generalize (yx.alloc (.cells #[.int .i64 0, .int .i64 0] 23)) = v1 at *
  rw [hb7]
  clear hb7
  go_upto_region 7 with (first
    | (go_at_call 49; (with_reducible refine Calls.mono (HCG.out _ BV.out) ?_); rintro e yx ⟨vc, rfl, hbx, Ac, cc, rfl, hGc, _⟩; (try replace p0 := keep hbx p0); (try replace p1 := keep hbx p1); (try replace HM5 := Lib.hid (HM5.out.on hbx)); (try replace HM9 := Lib.hid (HM9.out.on hbx)); (try replace HM11 := Lib.hid (HM11.out.on hbx)); (try replace HM14 := Lib.hid (HM14.out.on hbx)); (try replace TC := Lib.hid (TC.out.bel hbx)); (first | replace BV := Lib.hid (belowT (show Below w.heap.size w _ by have Bq := BV.out; have Bz := Bq.size; (repeat (first | with_reducible exact Below.refl _ _ | with_reducible assumption | with_reducible refine Below.alloc ?_ (by first | (simp; done) | (simp; omega) | omega) _ | with_reducible refine Below.setCell ?_ (by first | (simp; done) | (simp; omega) | omega) _ | with_reducible refine Below.drew ?_ | with_reducible refine below_drewN ?_ _))) hbx) | have BV := Lib.hid (belowT (show Below w.heap.size w _ by (repeat (first | with_reducible exact Below.refl _ _ | with_reducible assumption | with_reducible refine Below.alloc ?_ (by first | (simp; done) | (simp; omega) | omega) _ | with_reducible refine Below.setCell ?_ (by first | (simp; done) | (simp; omega) | omega) _ | with_reducible refine Below.drew ?_ | with_reducible refine below_drewN ?_ _))) hbx)); have TC := Lib.hid hGc; clear hGc; clear hbx)
    | (go_at_call 73; (with_reducible refine Calls.mono (HBS.out _ _ _ TC.out) ?_); rintro e yx ⟨rfl, hbx⟩; (try replace p0 := keep hbx p0); (try replace p1 := keep hbx p1); (try replace HM5 := Lib.hid (HM5.out.on hbx)); (try replace HM9 := Lib.hid (HM9.out.on hbx)); (try replace HM11 := Lib.hid (HM11.out.on hbx)); (try replace HM14 := Lib.hid (HM14.out.on hbx)); (try replace TC := Lib.hid (TC.out.bel hbx)); (first | replace BV := Lib.hid (belowT (show Below w.heap.size w _ by have Bq := BV.out; have Bz := Bq.size; (repeat (first | with_reducible exact Below.refl _ _ | with_reducible assumption | with_reducible refine Below.alloc ?_ (by first | (simp; done) | (simp; omega) | omega) _ | with_reducible refine Below.setCell ?_ (by first | (simp; done) | (simp; omega) | omega) _ | with_reducible refine Below.drew ?_ | with_reducible refine below_drewN ?_ _))) hbx) | have BV := Lib.hid (belowT (show Below w.heap.size w _ by (repeat (first | with_reducible exact Below.refl _ _ | with_reducible assumption | with_reducible refine Below.alloc ?_ (by first | (simp; done) | (simp; omega) | omega) _ | with_reducible refine Below.setCell ?_ (by first | (simp; done) | (simp; omega) | omega) _ | with_reducible refine Below.drew ?_ | with_reducible refine below_drewN ?_ _))) hbx)); clear hbx)
    | (refine wl_st8n rfl _ _ rfl _ rfl rfl ((fun _ => 0)) rfl ?_))
  obtain ⟨b9, hb9⟩ : ∃ b9, yx.heap.size = b9 := ⟨_, rfl⟩
  have hvv : Below yx.heap.size yx (yx.alloc (.cells (arr (fun _ => 0)) 102)) := (Below.refl _ _).alloc (Nat.le_refl _) _
  have HM9 : Hid (IM (yx.alloc (.cells (arr (fun _ => 0)) 102)) b9 8 ((fun _ => 0))) := Lib.hid (hb9 ▸ arr_im yx ((fun _ => 0)) 102)
  replace HM5 := Lib.hid (HM5.out.on hvv)
  replace p0 := keep hvv p0
  replace p1 := keep hvv p1
  replace BV := Lib.hid (belowT BV.out hvv)
  clear hvv
  generalize (yx.alloc (.cells (arr (fun _ => 0)) 102)) = v2 at *
  rw [hb9]
  clear hb9
  go_upto_region 8 with (first
    | (refine wl_ld8 rfl _ rfl w.heap.size rfl (flt h) HM5.out ?_)
    | (go_at_call 74; (with_reducible refine Calls.mono (HRS.out _) ?_); rintro e yx ⟨rfl, hbx⟩; (try replace p0 := keep hbx p0); (try replace p1 := keep hbx p1); (try replace HM5 := Lib.hid (HM5.out.on hbx)); (try replace HM9 := Lib.hid (HM9.out.on hbx)); (try replace HM11 := Lib.hid (HM11.out.on hbx)); (try replace HM14 := Lib.hid (HM14.out.on hbx)); (try replace TC := Lib.hid (TC.out.bel hbx)); (first | replace BV := Lib.hid (belowT (show Below w.heap.size w _ by have Bq := BV.out; have Bz := Bq.size; (repeat (first | with_reducible exact Below.refl _ _ | with_reducible assumption | with_reducible refine Below.alloc ?_ (by first | (simp; done) | (simp; omega) | omega) _ | with_reducible refine Below.setCell ?_ (by first | (simp; done) | (simp; omega) | omega) _ | with_reducible refine Below.drew ?_ | with_reducible refine below_drewN ?_ _))) hbx) | have BV := Lib.hid (belowT (show Below w.heap.size w _ by (repeat (first | with_reducible exact Below.refl _ _ | with_reducible assumption | with_reducible refine Below.alloc ?_ (by first | (simp; done) | (simp; omega) | omega) _ | with_reducible refine Below.setCell ?_ (by first | (simp; done) | (simp; omega) | omega) _ | with_reducible refine Below.drew ?_ | with_reducible refine below_drewN ?_ _))) hbx)); clear hbx)
    | (refine wl_st8n rfl _ _ rfl _ rfl rfl (fun _ => 0) rfl ?_))
  obtain ⟨b11, hb11⟩ : ∃ b11, yx.heap.size = b11 := ⟨_, rfl⟩
  have hvv : Below yx.heap.size yx (yx.alloc (.cells (arr (fun _ => 0)) 102)) := (Below.refl _ _).alloc (Nat.le_refl _) _
  have HM11 : Hid (IM (yx.alloc (.cells (arr (fun _ => 0)) 102)) b11 8 (fun _ => 0)) := Lib.hid (hb11 ▸ arr_im yx (fun _ => 0) 102)
  replace HM5 := Lib.hid (HM5.out.on hvv)
  replace HM9 := Lib.hid (HM9.out.on hvv)
  replace p0 := keep hvv p0
  replace p1 := keep hvv p1
  replace BV := Lib.hid (belowT BV.out hvv)
  clear hvv
  generalize (yx.alloc (.cells (arr (fun _ => 0)) 102)) = v3 at *
  rw [hb11]
  clear hb11
  go_upto_region 10 with (first
    | (refine wl_ld8 rfl _ rfl w.heap.size rfl (flt h) HM5.out ?_)
    | (go_at_call 75; (with_reducible refine Calls.mono (HBE.out _) ?_); rintro e yx ⟨rfl, hbx⟩; (try replace p0 := keep hbx p0); (try replace p1 := keep hbx p1); (try replace HM5 := Lib.hid (HM5.out.on hbx)); (try replace HM9 := Lib.hid (HM9.out.on hbx)); (try replace HM11 := Lib.hid (HM11.out.on hbx)); (try replace HM14 := Lib.hid (HM14.out.on hbx)); (try replace TC := Lib.hid (TC.out.bel hbx)); (first | replace BV := Lib.hid (belowT (show Below w.heap.size w _ by have Bq := BV.out; have Bz := Bq.size; (repeat (first | with_reducible exact Below.refl _ _ | with_reducible assumption | with_reducible refine Below.alloc ?_ (by first | (simp; done) | (simp; omega) | omega) _ | with_reducible refine Below.setCell ?_ (by first | (simp; done) | (simp; omega) | omega) _ | with_reducible refine Below.drew ?_ | with_reducible refine below_drewN ?_ _))) hbx) | have BV := Lib.hid (belowT (show Below w.heap.size w _ by (repeat (first | with_reducible exact Below.refl _ _ | with_reducible assumption | with_reducible refine Below.alloc ?_ (by first | (simp; done) | (simp; omega) | omega) _ | with_reducible refine Below.setCell ?_ (by first | (simp; done) | (simp; omega) | omega) _ | with_reducible refine Below.drew ?_ | with_reducible refine below_drewN ?_ _))) hbx)); clear hbx))
  have hlt : w.heap.size < yx.heap.size ∧ b7 < yx.heap.size ∧ b9 < yx.heap.size ∧ b11 < yx.heap.size := ⟨HM5.out.1, lt_of p0, HM9.out.1, HM11.out.1⟩
  obtain ⟨b14, hb14⟩ : ∃ b14, yx.heap.size = b14 := ⟨_, rfl⟩
  have hvv : Below yx.heap.size yx (yx.alloc (.cells #[.int .i64 0, .int .i64 0, .int .i64 0, .int .i64 0, .int .i64 0, .int .i64 0, .int .i64 0, .int .i64 0] 102)) := (Below.refl _ _).alloc (Nat.le_refl _) _
  have HM14 : Hid (IM (yx.alloc (.cells #[.int .i64 0, .int .i64 0, .int .i64 0, .int .i64 0, .int .i64 0, .int .i64 0, .int .i64 0, .int .i64 0] 102)) b14 8 (fun _ => 0)) := Lib.hid (hb14 ▸ arr_im yx (fun _ => 0) 102)
  replace HM5 := Lib.hid (HM5.out.on hvv)
  replace HM9 := Lib.hid (HM9.out.on hvv)
  replace HM11 := Lib.hid (HM11.out.on hvv)
  replace p0 := keep hvv p0
  replace p1 := keep hvv p1
  replace BV := Lib.hid (belowT BV.out hvv)
  clear hvv
  generalize (yx.alloc (.cells #[.int .i64 0, .int .i64 0, .int .i64 0, .int .i64 0, .int .i64 0, .int .i64 0, .int .i64 0, .int .i64 0] 102)) = v4 at *
  rw [hb14] at hlt ⊢
  clear hb14
  go_upto_region 12 with fail
  have ca0 : _ = some (Value.int .i64 0) := (HM11.out.2 0 (by omega)).1; have ca1 : _ = some (Value.int .i64 0) := (HM11.out.2 1 (by omega)).1; have ca2 : _ = some (Value.int .i64 0) := (HM11.out.2 2 (by omega)).1; have ca3 : _ = some (Value.int .i64 0) := (HM11.out.2 3 (by omega)).1; have ca4 : _ = some (Value.int .i64 0) := (HM11.out.2 4 (by omega)).1; have ca5 : _ = some (Value.int .i64 0) := (HM11.out.2 5 (by omega)).1; have ca6 : _ = some (Value.int .i64 0) := (HM11.out.2 6 (by omega)).1; have ca7 : _ = some (Value.int .i64 0) := (HM11.out.2 7 (by omega)).1
  have cb0 : _ = some (Value.int .i64 0) := (HM14.out.2 0 (by omega)).1; have cb1 : _ = some (Value.int .i64 0) := (HM14.out.2 1 (by omega)).1; have cb2 : _ = some (Value.int .i64 0) := (HM14.out.2 2 (by omega)).1; have cb3 : _ = some (Value.int .i64 0) := (HM14.out.2 3 (by omega)).1; have cb4 : _ = some (Value.int .i64 0) := (HM14.out.2 4 (by omega)).1; have cb5 : _ = some (Value.int .i64 0) := (HM14.out.2 5 (by omega)).1; have cb6 : _ = some (Value.int .i64 0) := (HM14.out.2 6 (by omega)).1; have cb7 : _ = some (Value.int .i64 0) := (HM14.out.2 7 (by omega)).1
  go_upto_region 16 with (first
    | (refine wl_arN _ _ _ rfl rfl (fun _ => 0) rfl rfl ?_)
    | (go_at_call 53; (with_reducible refine Calls.mono (HSE.out _ BV.out) ?_); rintro e yx ⟨rfl, hbx⟩; (try replace p0 := keep hbx p0); (try replace p1 := keep hbx p1); (try replace HM5 := Lib.hid (HM5.out.on hbx)); (try replace HM9 := Lib.hid (HM9.out.on hbx)); (try replace HM11 := Lib.hid (HM11.out.on hbx)); (try replace HM14 := Lib.hid (HM14.out.on hbx)); (try replace TC := Lib.hid (TC.out.bel hbx)); (first | replace BV := Lib.hid (belowT (show Below w.heap.size w _ by have Bq := BV.out; have Bz := Bq.size; (repeat (first | with_reducible exact Below.refl _ _ | with_reducible assumption | with_reducible refine Below.alloc ?_ (by first | (simp; done) | (simp; omega) | omega) _ | with_reducible refine Below.setCell ?_ (by first | (simp; done) | (simp; omega) | omega) _ | with_reducible refine Below.drew ?_ | with_reducible refine below_drewN ?_ _))) hbx) | have BV := Lib.hid (belowT (show Below w.heap.size w _ by (repeat (first | with_reducible exact Below.refl _ _ | with_reducible assumption | with_reducible refine Below.alloc ?_ (by first | (simp; done) | (simp; omega) | omega) _ | with_reducible refine Below.setCell ?_ (by first | (simp; done) | (simp; omega) | omega) _ | with_reducible refine Below.drew ?_ | with_reducible refine below_drewN ?_ _))) hbx)); clear hbx))
  clear ca0 cb0 ca1 cb1 ca2 cb2 ca3 cb3 ca4 cb4 ca5 cb5 ca6 cb6 ca7 cb7
  have cc0 : _ = some (Value.int .i64 0) := (HM9.out.2 0 (by omega)).1; have cc1 : _ = some (Value.int .i64 0) := (HM9.out.2 1 (by omega)).1; have cc2 : _ = some (Value.int .i64 0) := (HM9.out.2 2 (by omega)).1; have cc3 : _ = some (Value.int .i64 0) := (HM9.out.2 3 (by omega)).1; have cc4 : _ = some (Value.int .i64 0) := (HM9.out.2 4 (by omega)).1; have cc5 : _ = some (Value.int .i64 0) := (HM9.out.2 5 (by omega)).1; have cc6 : _ = some (Value.int .i64 0) := (HM9.out.2 6 (by omega)).1; have cc7 : _ = some (Value.int .i64 0) := (HM9.out.2 7 (by omega)).1
  go_wp2_with (first
    | (refine wl_arE _ _ _ rfl rfl (fun _ => 0) rfl rfl ?_))
  go_ret
  exact ⟨rfl, BV.out⟩
set_option maxRecDepth 100000 in
set_option maxHeartbeats 4000000 in
theorem sb_dB (A : Option Addr) (n c : Nat) (g : Nat → Int × Int) (q : Int) (h : Nat → Int × Int) (D : Int) (D0 : D ≠ 0) (w : World) (hs : shr n = true) (hD : smE n g = D) (hB : b4E 8000 h = 0) (hG : GS w (.slice A n c) n g) :
    Calls Try.prog 12 #[.slice A n c, .int .i64 q, .agg (arr (flt h))] w fun e w' => e = .returned (.bool true) ∧ Below w.heap.size w w' := by
  have hn : n ≤ 404 := by unfold shr at hs; simp at hs; omega
  have hA : GA w A n g := by obtain ⟨A', c', e, h, _⟩ := hG; cases e; exact h
  have hE : boE n g q = D := by unfold boE fs2; rw [hD, if_neg D0]
  have HSH := Lib.hid (fun W => short_any A n c W)
  rw [hs] at HSH
  have HCG := Lib.hid (fun W (hW : Below w.heap.size w W) => copyG_any (.slice A n c) n g W (by omega) (hG.on hW))
  have HBO := Lib.hid (fun A1 c1 W (h : GA W A1 n g) => binOfS_all A1 n c1 g q (D) 0 0 hE (fun e => absurd e D0) (fun _ => ⟨rfl, rfl⟩) W (by omega) h)
  have HBS := Lib.hid (fun A1 c1 W (h : GA W A1 n g) => binsOfS_all A1 n c1 g (D) (fun _ => 0) hD (fun e => absurd e D0) (fun _ => rfl) W (by omega) h)
  have HSE := Lib.hid (fun W (hW : Below w.heap.size w W) => samplesErr_any A n c g W (by omega) (hA.bel hW))
  rw [hD] at HSE
  have HBE := Lib.hid (fun W => binsErr_arr h W)
  rw [hB] at HBE
  obtain ⟨z, Er, hz1, hz2⟩ := restored_both h hB
  have HRS := Lib.hid hz1
  have HRR := Lib.hid hz2
  clear hz1 hz2
  have d1 : (D == 0) = false := by simpa using D0
  have d2 : (D != 0) = true := by simpa using D0
  clear hA hG hE hs hD hB D0
  go_enter Try.func12, Try.ntmps12
  go_upto_region 6 with (first
    | (go_at_call 17; (with_reducible refine Calls.mono (awake_any _) ?_); rintro e yx ⟨rfl, hbx⟩; (try replace p0 := keep hbx p0); (try replace p1 := keep hbx p1); (try replace HM5 := Lib.hid (HM5.out.on hbx)); (try replace HM9 := Lib.hid (HM9.out.on hbx)); (try replace HM11 := Lib.hid (HM11.out.on hbx)); (try replace HM14 := Lib.hid (HM14.out.on hbx)); (try replace TC := Lib.hid (TC.out.bel hbx)); (first | replace BV := Lib.hid (belowT (show Below w.heap.size w _ by have Bq := BV.out; have Bz := Bq.size; (repeat (first | with_reducible exact Below.refl _ _ | with_reducible assumption | with_reducible refine Below.alloc ?_ (by first | (simp; done) | (simp; omega) | omega) _ | with_reducible refine Below.setCell ?_ (by first | (simp; done) | (simp; omega) | omega) _ | with_reducible refine Below.drew ?_ | with_reducible refine below_drewN ?_ _))) hbx) | have BV := Lib.hid (belowT (show Below w.heap.size w _ by (repeat (first | with_reducible exact Below.refl _ _ | with_reducible assumption | with_reducible refine Below.alloc ?_ (by first | (simp; done) | (simp; omega) | omega) _ | with_reducible refine Below.setCell ?_ (by first | (simp; done) | (simp; omega) | omega) _ | with_reducible refine Below.drew ?_ | with_reducible refine below_drewN ?_ _))) hbx)); have HM5 : Hid (IM yx w.heap.size 8 (flt h)) := Lib.hid (IM.on (arr_im w (flt h) 102) hbx); clear hbx)
    | (go_at_call 47; (with_reducible refine Calls.mono (HSH.out _) ?_); rintro e yx ⟨rfl, hbx⟩; (try replace p0 := keep hbx p0); (try replace p1 := keep hbx p1); (try replace HM5 := Lib.hid (HM5.out.on hbx)); (try replace HM9 := Lib.hid (HM9.out.on hbx)); (try replace HM11 := Lib.hid (HM11.out.on hbx)); (try replace HM14 := Lib.hid (HM14.out.on hbx)); (try replace TC := Lib.hid (TC.out.bel hbx)); (first | replace BV := Lib.hid (belowT (show Below w.heap.size w _ by have Bq := BV.out; have Bz := Bq.size; (repeat (first | with_reducible exact Below.refl _ _ | with_reducible assumption | with_reducible refine Below.alloc ?_ (by first | (simp; done) | (simp; omega) | omega) _ | with_reducible refine Below.setCell ?_ (by first | (simp; done) | (simp; omega) | omega) _ | with_reducible refine Below.drew ?_ | with_reducible refine below_drewN ?_ _))) hbx) | have BV := Lib.hid (belowT (show Below w.heap.size w _ by (repeat (first | with_reducible exact Below.refl _ _ | with_reducible assumption | with_reducible refine Below.alloc ?_ (by first | (simp; done) | (simp; omega) | omega) _ | with_reducible refine Below.setCell ?_ (by first | (simp; done) | (simp; omega) | omega) _ | with_reducible refine Below.drew ?_ | with_reducible refine below_drewN ?_ _))) hbx)); clear hbx)
    | (go_at_call 49; (with_reducible refine Calls.mono (HCG.out _ BV.out) ?_); rintro e yx ⟨vc, rfl, hbx, Ac, cc, rfl, hGc, _⟩; (try replace p0 := keep hbx p0); (try replace p1 := keep hbx p1); (try replace HM5 := Lib.hid (HM5.out.on hbx)); (try replace HM9 := Lib.hid (HM9.out.on hbx)); (try replace HM11 := Lib.hid (HM11.out.on hbx)); (try replace HM14 := Lib.hid (HM14.out.on hbx)); (try replace TC := Lib.hid (TC.out.bel hbx)); (first | replace BV := Lib.hid (belowT (show Below w.heap.size w _ by have Bq := BV.out; have Bz := Bq.size; (repeat (first | with_reducible exact Below.refl _ _ | with_reducible assumption | with_reducible refine Below.alloc ?_ (by first | (simp; done) | (simp; omega) | omega) _ | with_reducible refine Below.setCell ?_ (by first | (simp; done) | (simp; omega) | omega) _ | with_reducible refine Below.drew ?_ | with_reducible refine below_drewN ?_ _))) hbx) | have BV := Lib.hid (belowT (show Below w.heap.size w _ by (repeat (first | with_reducible exact Below.refl _ _ | with_reducible assumption | with_reducible refine Below.alloc ?_ (by first | (simp; done) | (simp; omega) | omega) _ | with_reducible refine Below.setCell ?_ (by first | (simp; done) | (simp; omega) | omega) _ | with_reducible refine Below.drew ?_ | with_reducible refine below_drewN ?_ _))) hbx)); have TC := Lib.hid hGc; clear hGc; clear hbx)
    | (go_at_call 72; (with_reducible refine Calls.mono (HBO.out _ _ _ TC.out) ?_); rintro e yx ⟨rfl, hbx⟩; (try replace p0 := keep hbx p0); (try replace p1 := keep hbx p1); (try replace HM5 := Lib.hid (HM5.out.on hbx)); (try replace HM9 := Lib.hid (HM9.out.on hbx)); (try replace HM11 := Lib.hid (HM11.out.on hbx)); (try replace HM14 := Lib.hid (HM14.out.on hbx)); (try replace TC := Lib.hid (TC.out.bel hbx)); (first | replace BV := Lib.hid (belowT (show Below w.heap.size w _ by have Bq := BV.out; have Bz := Bq.size; (repeat (first | with_reducible exact Below.refl _ _ | with_reducible assumption | with_reducible refine Below.alloc ?_ (by first | (simp; done) | (simp; omega) | omega) _ | with_reducible refine Below.setCell ?_ (by first | (simp; done) | (simp; omega) | omega) _ | with_reducible refine Below.drew ?_ | with_reducible refine below_drewN ?_ _))) hbx) | have BV := Lib.hid (belowT (show Below w.heap.size w _ by (repeat (first | with_reducible exact Below.refl _ _ | with_reducible assumption | with_reducible refine Below.alloc ?_ (by first | (simp; done) | (simp; omega) | omega) _ | with_reducible refine Below.setCell ?_ (by first | (simp; done) | (simp; omega) | omega) _ | with_reducible refine Below.drew ?_ | with_reducible refine below_drewN ?_ _))) hbx)); clear hbx))
  obtain ⟨b7, hb7⟩ : ∃ b7, yx.heap.size = b7 := ⟨_, rfl⟩
  have hvv : Below yx.heap.size yx (yx.alloc (.cells #[.int .i64 0, .int .i64 0] 23)) := (Below.refl _ _).alloc (Nat.le_refl _) _
  have p0 : (yx.alloc (.cells #[.int .i64 0, .int .i64 0] 23)).cell? ⟨b7, 0, none⟩ = some (.int .i64 0) := by rw [← hb7]; simp [go_sem]
  have p1 : (yx.alloc (.cells #[.int .i64 0, .int .i64 0] 23)).cell? ⟨b7, 1, none⟩ = some (.int .i64 0) := by rw [← hb7]; simp [go_sem]
  replace HM5 := Lib.hid (HM5.out.on hvv)
  replace BV := Lib.hid (belowT BV.out hvv)
  clear hvv
  generalize (yx.alloc (.cells #[.int .i64 0, .int .i64 0] 23)) = v1 at *
  rw [hb7]
  clear hb7
  go_upto_region 7 with (first
    | (go_at_call 49; (with_reducible refine Calls.mono (HCG.out _ BV.out) ?_); rintro e yx ⟨vc, rfl, hbx, Ac, cc, rfl, hGc, _⟩; (try replace p0 := keep hbx p0); (try replace p1 := keep hbx p1); (try replace HM5 := Lib.hid (HM5.out.on hbx)); (try replace HM9 := Lib.hid (HM9.out.on hbx)); (try replace HM11 := Lib.hid (HM11.out.on hbx)); (try replace HM14 := Lib.hid (HM14.out.on hbx)); (try replace TC := Lib.hid (TC.out.bel hbx)); (first | replace BV := Lib.hid (belowT (show Below w.heap.size w _ by have Bq := BV.out; have Bz := Bq.size; (repeat (first | with_reducible exact Below.refl _ _ | with_reducible assumption | with_reducible refine Below.alloc ?_ (by first | (simp; done) | (simp; omega) | omega) _ | with_reducible refine Below.setCell ?_ (by first | (simp; done) | (simp; omega) | omega) _ | with_reducible refine Below.drew ?_ | with_reducible refine below_drewN ?_ _))) hbx) | have BV := Lib.hid (belowT (show Below w.heap.size w _ by (repeat (first | with_reducible exact Below.refl _ _ | with_reducible assumption | with_reducible refine Below.alloc ?_ (by first | (simp; done) | (simp; omega) | omega) _ | with_reducible refine Below.setCell ?_ (by first | (simp; done) | (simp; omega) | omega) _ | with_reducible refine Below.drew ?_ | with_reducible refine below_drewN ?_ _))) hbx)); have TC := Lib.hid hGc; clear hGc; clear hbx)
    | (go_at_call 73; (with_reducible refine Calls.mono (HBS.out _ _ _ TC.out) ?_); rintro e yx ⟨rfl, hbx⟩; (try replace p0 := keep hbx p0); (try replace p1 := keep hbx p1); (try replace HM5 := Lib.hid (HM5.out.on hbx)); (try replace HM9 := Lib.hid (HM9.out.on hbx)); (try replace HM11 := Lib.hid (HM11.out.on hbx)); (try replace HM14 := Lib.hid (HM14.out.on hbx)); (try replace TC := Lib.hid (TC.out.bel hbx)); (first | replace BV := Lib.hid (belowT (show Below w.heap.size w _ by have Bq := BV.out; have Bz := Bq.size; (repeat (first | with_reducible exact Below.refl _ _ | with_reducible assumption | with_reducible refine Below.alloc ?_ (by first | (simp; done) | (simp; omega) | omega) _ | with_reducible refine Below.setCell ?_ (by first | (simp; done) | (simp; omega) | omega) _ | with_reducible refine Below.drew ?_ | with_reducible refine below_drewN ?_ _))) hbx) | have BV := Lib.hid (belowT (show Below w.heap.size w _ by (repeat (first | with_reducible exact Below.refl _ _ | with_reducible assumption | with_reducible refine Below.alloc ?_ (by first | (simp; done) | (simp; omega) | omega) _ | with_reducible refine Below.setCell ?_ (by first | (simp; done) | (simp; omega) | omega) _ | with_reducible refine Below.drew ?_ | with_reducible refine below_drewN ?_ _))) hbx)); clear hbx)
    | (refine wl_st8n rfl _ _ rfl _ rfl rfl ((fun _ => 0)) rfl ?_))
  obtain ⟨b9, hb9⟩ : ∃ b9, yx.heap.size = b9 := ⟨_, rfl⟩
  have hvv : Below yx.heap.size yx (yx.alloc (.cells (arr (fun _ => 0)) 102)) := (Below.refl _ _).alloc (Nat.le_refl _) _
  have HM9 : Hid (IM (yx.alloc (.cells (arr (fun _ => 0)) 102)) b9 8 ((fun _ => 0))) := Lib.hid (hb9 ▸ arr_im yx ((fun _ => 0)) 102)
  replace HM5 := Lib.hid (HM5.out.on hvv)
  replace p0 := keep hvv p0
  replace p1 := keep hvv p1
  replace BV := Lib.hid (belowT BV.out hvv)
  clear hvv
  generalize (yx.alloc (.cells (arr (fun _ => 0)) 102)) = v2 at *
  rw [hb9]
  clear hb9
  go_upto_region 8 with (first
    | (refine wl_ld8 rfl _ rfl w.heap.size rfl (flt h) HM5.out ?_)
    | (go_at_call 74; (with_reducible refine Calls.mono (HRS.out _) ?_); rintro e yx ⟨rfl, hbx⟩; (try replace p0 := keep hbx p0); (try replace p1 := keep hbx p1); (try replace HM5 := Lib.hid (HM5.out.on hbx)); (try replace HM9 := Lib.hid (HM9.out.on hbx)); (try replace HM11 := Lib.hid (HM11.out.on hbx)); (try replace HM14 := Lib.hid (HM14.out.on hbx)); (try replace TC := Lib.hid (TC.out.bel hbx)); (first | replace BV := Lib.hid (belowT (show Below w.heap.size w _ by have Bq := BV.out; have Bz := Bq.size; (repeat (first | with_reducible exact Below.refl _ _ | with_reducible assumption | with_reducible refine Below.alloc ?_ (by first | (simp; done) | (simp; omega) | omega) _ | with_reducible refine Below.setCell ?_ (by first | (simp; done) | (simp; omega) | omega) _ | with_reducible refine Below.drew ?_ | with_reducible refine below_drewN ?_ _))) hbx) | have BV := Lib.hid (belowT (show Below w.heap.size w _ by (repeat (first | with_reducible exact Below.refl _ _ | with_reducible assumption | with_reducible refine Below.alloc ?_ (by first | (simp; done) | (simp; omega) | omega) _ | with_reducible refine Below.setCell ?_ (by first | (simp; done) | (simp; omega) | omega) _ | with_reducible refine Below.drew ?_ | with_reducible refine below_drewN ?_ _))) hbx)); clear hbx)
    | (refine wl_st8n rfl _ _ rfl _ rfl rfl (z) rfl ?_))
  obtain ⟨b11, hb11⟩ : ∃ b11, yx.heap.size = b11 := ⟨_, rfl⟩
  have hvv : Below yx.heap.size yx (yx.alloc (.cells (arr (z)) 102)) := (Below.refl _ _).alloc (Nat.le_refl _) _
  have HM11 : Hid (IM (yx.alloc (.cells (arr (z)) 102)) b11 8 (z)) := Lib.hid (hb11 ▸ arr_im yx (z) 102)
  replace HM5 := Lib.hid (HM5.out.on hvv)
  replace HM9 := Lib.hid (HM9.out.on hvv)
  replace p0 := keep hvv p0
  replace p1 := keep hvv p1
  replace BV := Lib.hid (belowT BV.out hvv)
  clear hvv
  generalize (yx.alloc (.cells (arr (z)) 102)) = v3 at *
  rw [hb11]
  clear hb11
  go_upto_region 10 with (first
    | (refine wl_ld8 rfl _ rfl w.heap.size rfl (flt h) HM5.out ?_)
    | (go_at_call 75; (with_reducible refine Calls.mono (HBE.out _) ?_); rintro e yx ⟨rfl, hbx⟩; (try replace p0 := keep hbx p0); (try replace p1 := keep hbx p1); (try replace HM5 := Lib.hid (HM5.out.on hbx)); (try replace HM9 := Lib.hid (HM9.out.on hbx)); (try replace HM11 := Lib.hid (HM11.out.on hbx)); (try replace HM14 := Lib.hid (HM14.out.on hbx)); (try replace TC := Lib.hid (TC.out.bel hbx)); (first | replace BV := Lib.hid (belowT (show Below w.heap.size w _ by have Bq := BV.out; have Bz := Bq.size; (repeat (first | with_reducible exact Below.refl _ _ | with_reducible assumption | with_reducible refine Below.alloc ?_ (by first | (simp; done) | (simp; omega) | omega) _ | with_reducible refine Below.setCell ?_ (by first | (simp; done) | (simp; omega) | omega) _ | with_reducible refine Below.drew ?_ | with_reducible refine below_drewN ?_ _))) hbx) | have BV := Lib.hid (belowT (show Below w.heap.size w _ by (repeat (first | with_reducible exact Below.refl _ _ | with_reducible assumption | with_reducible refine Below.alloc ?_ (by first | (simp; done) | (simp; omega) | omega) _ | with_reducible refine Below.setCell ?_ (by first | (simp; done) | (simp; omega) | omega) _ | with_reducible refine Below.drew ?_ | with_reducible refine below_drewN ?_ _))) hbx)); clear hbx))
  have hlt : w.heap.size < yx.heap.size ∧ b7 < yx.heap.size ∧ b9 < yx.heap.size ∧ b11 < yx.heap.size := ⟨HM5.out.1, lt_of p0, HM9.out.1, HM11.out.1⟩
  obtain ⟨b14, hb14⟩ : ∃ b14, yx.heap.size = b14 := ⟨_, rfl⟩
  have hvv : Below yx.heap.size yx (yx.alloc (.cells #[.int .i64 0, .int .i64 0, .int .i64 0, .int .i64 0, .int .i64 0, .int .i64 0, .int .i64 0, .int .i64 0] 102)) := (Below.refl _ _).alloc (Nat.le_refl _) _
  have HM14 : Hid (IM (yx.alloc (.cells #[.int .i64 0, .int .i64 0, .int .i64 0, .int .i64 0, .int .i64 0, .int .i64 0, .int .i64 0, .int .i64 0] 102)) b14 8 (fun _ => 0)) := Lib.hid (hb14 ▸ arr_im yx (fun _ => 0) 102)
  replace HM5 := Lib.hid (HM5.out.on hvv)
  replace HM9 := Lib.hid (HM9.out.on hvv)
  replace HM11 := Lib.hid (HM11.out.on hvv)
  replace p0 := keep hvv p0
  replace p1 := keep hvv p1
  replace BV := Lib.hid (belowT BV.out hvv)
  clear hvv
  generalize (yx.alloc (.cells #[.int .i64 0, .int .i64 0, .int .i64 0, .int .i64 0, .int .i64 0, .int .i64 0, .int .i64 0, .int .i64 0] 102)) = v4 at *
  rw [hb14] at hlt ⊢
  clear hb14
  go_upto_region 12 with (first
    | (refine wl_ld8 rfl _ rfl w.heap.size rfl (flt h) HM5.out ?_)
    | (go_at_call 76; (with_reducible refine Calls.mono (HRR.out _) ?_); rintro e yx ⟨rfl, hbx⟩; (try replace p0 := keep hbx p0); (try replace p1 := keep hbx p1); (try replace HM5 := Lib.hid (HM5.out.on hbx)); (try replace HM9 := Lib.hid (HM9.out.on hbx)); (try replace HM11 := Lib.hid (HM11.out.on hbx)); (try replace HM14 := Lib.hid (HM14.out.on hbx)); (try replace TC := Lib.hid (TC.out.bel hbx)); (first | replace BV := Lib.hid (belowT (show Below w.heap.size w _ by have Bq := BV.out; have Bz := Bq.size; (repeat (first | with_reducible exact Below.refl _ _ | with_reducible assumption | with_reducible refine Below.alloc ?_ (by first | (simp; done) | (simp; omega) | omega) _ | with_reducible refine Below.setCell ?_ (by first | (simp; done) | (simp; omega) | omega) _ | with_reducible refine Below.drew ?_ | with_reducible refine below_drewN ?_ _))) hbx) | have BV := Lib.hid (belowT (show Below w.heap.size w _ by (repeat (first | with_reducible exact Below.refl _ _ | with_reducible assumption | with_reducible refine Below.alloc ?_ (by first | (simp; done) | (simp; omega) | omega) _ | with_reducible refine Below.setCell ?_ (by first | (simp; done) | (simp; omega) | omega) _ | with_reducible refine Below.drew ?_ | with_reducible refine below_drewN ?_ _))) hbx)); clear hbx)
    | (refine wl_st8 rfl _ _ rfl b14 rfl (fun _ => 0) z HM14.out rfl ?_; intro w7 hM7 hB7; replace HM14 := Lib.hid hM7; replace HM5 := Lib.hid (HM5.out.onB hB7 (by omega)); replace HM9 := Lib.hid (HM9.out.onB hB7 (by omega)); replace HM11 := Lib.hid (HM11.out.onB hB7 (by omega)); replace p0 := (hB7.cell (p := ⟨b7, 0, none⟩) (by show b7 < b14; omega)).trans p0; replace p1 := (hB7.cell (p := ⟨b7, 1, none⟩) (by show b7 < b14; omega)).trans p1; replace BV := Lib.hid (BV.out.trans (hB7.mono (by omega))); clear hM7 hB7))
  have ca0 : _ = some (Value.int .i64 (z 0)) := (HM11.out.2 0 (by omega)).1; have ca1 : _ = some (Value.int .i64 (z 1)) := (HM11.out.2 1 (by omega)).1; have ca2 : _ = some (Value.int .i64 (z 2)) := (HM11.out.2 2 (by omega)).1; have ca3 : _ = some (Value.int .i64 (z 3)) := (HM11.out.2 3 (by omega)).1; have ca4 : _ = some (Value.int .i64 (z 4)) := (HM11.out.2 4 (by omega)).1; have ca5 : _ = some (Value.int .i64 (z 5)) := (HM11.out.2 5 (by omega)).1; have ca6 : _ = some (Value.int .i64 (z 6)) := (HM11.out.2 6 (by omega)).1; have ca7 : _ = some (Value.int .i64 (z 7)) := (HM11.out.2 7 (by omega)).1
  have cb0 : _ = some (Value.int .i64 (z 0)) := (HM14.out.2 0 (by omega)).1; have cb1 : _ = some (Value.int .i64 (z 1)) := (HM14.out.2 1 (by omega)).1; have cb2 : _ = some (Value.int .i64 (z 2)) := (HM14.out.2 2 (by omega)).1; have cb3 : _ = some (Value.int .i64 (z 3)) := (HM14.out.2 3 (by omega)).1; have cb4 : _ = some (Value.int .i64 (z 4)) := (HM14.out.2 4 (by omega)).1; have cb5 : _ = some (Value.int .i64 (z 5)) := (HM14.out.2 5 (by omega)).1; have cb6 : _ = some (Value.int .i64 (z 6)) := (HM14.out.2 6 (by omega)).1; have cb7 : _ = some (Value.int .i64 (z 7)) := (HM14.out.2 7 (by omega)).1
  go_upto_region 16 with (first
    | (refine wl_arN _ _ _ rfl rfl (z) rfl rfl ?_)
    | (go_at_call 53; (with_reducible refine Calls.mono (HSE.out _ BV.out) ?_); rintro e yx ⟨rfl, hbx⟩; (try replace p0 := keep hbx p0); (try replace p1 := keep hbx p1); (try replace HM5 := Lib.hid (HM5.out.on hbx)); (try replace HM9 := Lib.hid (HM9.out.on hbx)); (try replace HM11 := Lib.hid (HM11.out.on hbx)); (try replace HM14 := Lib.hid (HM14.out.on hbx)); (try replace TC := Lib.hid (TC.out.bel hbx)); (first | replace BV := Lib.hid (belowT (show Below w.heap.size w _ by have Bq := BV.out; have Bz := Bq.size; (repeat (first | with_reducible exact Below.refl _ _ | with_reducible assumption | with_reducible refine Below.alloc ?_ (by first | (simp; done) | (simp; omega) | omega) _ | with_reducible refine Below.setCell ?_ (by first | (simp; done) | (simp; omega) | omega) _ | with_reducible refine Below.drew ?_ | with_reducible refine below_drewN ?_ _))) hbx) | have BV := Lib.hid (belowT (show Below w.heap.size w _ by (repeat (first | with_reducible exact Below.refl _ _ | with_reducible assumption | with_reducible refine Below.alloc ?_ (by first | (simp; done) | (simp; omega) | omega) _ | with_reducible refine Below.setCell ?_ (by first | (simp; done) | (simp; omega) | omega) _ | with_reducible refine Below.drew ?_ | with_reducible refine below_drewN ?_ _))) hbx)); clear hbx))
  clear ca0 cb0 ca1 cb1 ca2 cb2 ca3 cb3 ca4 cb4 ca5 cb5 ca6 cb6 ca7 cb7
  have cc0 : _ = some (Value.int .i64 0) := (HM9.out.2 0 (by omega)).1; have cc1 : _ = some (Value.int .i64 0) := (HM9.out.2 1 (by omega)).1; have cc2 : _ = some (Value.int .i64 0) := (HM9.out.2 2 (by omega)).1; have cc3 : _ = some (Value.int .i64 0) := (HM9.out.2 3 (by omega)).1; have cc4 : _ = some (Value.int .i64 0) := (HM9.out.2 4 (by omega)).1; have cc5 : _ = some (Value.int .i64 0) := (HM9.out.2 5 (by omega)).1; have cc6 : _ = some (Value.int .i64 0) := (HM9.out.2 6 (by omega)).1; have cc7 : _ = some (Value.int .i64 0) := (HM9.out.2 7 (by omega)).1
  go_wp2_with (first
    | (refine wl_arE _ _ _ rfl rfl (fun _ => 0) rfl rfl ?_))
  go_ret
  exact ⟨rfl, BV.out⟩
set_option maxRecDepth 100000 in
set_option maxHeartbeats 4000000 in
theorem sb_qA (A : Option Addr) (n c : Nat) (g : Nat → Int × Int) (q : Int) (h : Nat → Int × Int) (S : Int) (S0 : S ≠ 0) (w : World) (hs : shr n = true) (hD : smE n g = 0) (hw : wi q 0 3 = false) (hB : b4E 8000 h = S) (hG : GS w (.slice A n c) n g) :
    Calls Try.prog 12 #[.slice A n c, .int .i64 q, .agg (arr (flt h))] w fun e w' => e = .returned (.bool true) ∧ Below w.heap.size w w' := by
  have hn : n ≤ 404 := by unfold shr at hs; simp at hs; omega
  have hA : GA w A n g := by obtain ⟨A', c', e, h, _⟩ := hG; cases e; exact h
  have hE : boE n g q = 2 := by unfold boE fs2 rgE; rw [hD, hw]; rfl
  have HSH := Lib.hid (fun W => short_any A n c W)
  rw [hs] at HSH
  have HCG := Lib.hid (fun W (hW : Below w.heap.size w W) => copyG_any (.slice A n c) n g W (by omega) (hG.on hW))
  have HBO := Lib.hid (fun A1 c1 W (h : GA W A1 n g) => binOfS_all A1 n c1 g q (2) 0 0 hE (fun e => absurd e (by decide)) (fun _ => ⟨rfl, rfl⟩) W (by omega) h)
  obtain ⟨F, hF⟩ : ∃ F, bnF g n = F := ⟨_, rfl⟩
  have HBS := Lib.hid (fun A1 c1 W (h : GA W A1 n g) => binsOfS_all A1 n c1 g (0) F hD (fun _ => hF.symm) (fun e => absurd rfl e) W (by omega) h)
  have HRB := Lib.hid (fun W (hW : Below w.heap.size w W) => binsOfR_arr A n c g hD W (hA.bel hW))
  rw [hF] at HRB
  have HSE := Lib.hid (fun W (hW : Below w.heap.size w W) => samplesErr_any A n c g W (by omega) (hA.bel hW))
  rw [hD] at HSE
  have HQE := Lib.hid (fun W => quarterErr_any q W)
  rw [show rgE q 0 3 = 2 by unfold rgE; rw [hw]; rfl] at HQE
  have HBE := Lib.hid (fun W => binsErr_arr h W)
  rw [hB] at HBE
  have HRS := Lib.hid (fun W => restoredS_bad h S hB S0 W)
  have s1 : (S == 0) = false := by simpa using S0
  have s2 : (S != 0) = true := by simpa using S0
  clear hA hG hE hs hD hB S0 hF
  go_enter Try.func12, Try.ntmps12
  go_upto_region 6 with (first
    | (go_at_call 17; (with_reducible refine Calls.mono (awake_any _) ?_); rintro e yx ⟨rfl, hbx⟩; (try replace p0 := keep hbx p0); (try replace p1 := keep hbx p1); (try replace HM5 := Lib.hid (HM5.out.on hbx)); (try replace HM9 := Lib.hid (HM9.out.on hbx)); (try replace HM11 := Lib.hid (HM11.out.on hbx)); (try replace HM14 := Lib.hid (HM14.out.on hbx)); (try replace TC := Lib.hid (TC.out.bel hbx)); (first | replace BV := Lib.hid (belowT (show Below w.heap.size w _ by have Bq := BV.out; have Bz := Bq.size; (repeat (first | with_reducible exact Below.refl _ _ | with_reducible assumption | with_reducible refine Below.alloc ?_ (by first | (simp; done) | (simp; omega) | omega) _ | with_reducible refine Below.setCell ?_ (by first | (simp; done) | (simp; omega) | omega) _ | with_reducible refine Below.drew ?_ | with_reducible refine below_drewN ?_ _))) hbx) | have BV := Lib.hid (belowT (show Below w.heap.size w _ by (repeat (first | with_reducible exact Below.refl _ _ | with_reducible assumption | with_reducible refine Below.alloc ?_ (by first | (simp; done) | (simp; omega) | omega) _ | with_reducible refine Below.setCell ?_ (by first | (simp; done) | (simp; omega) | omega) _ | with_reducible refine Below.drew ?_ | with_reducible refine below_drewN ?_ _))) hbx)); have HM5 : Hid (IM yx w.heap.size 8 (flt h)) := Lib.hid (IM.on (arr_im w (flt h) 102) hbx); clear hbx)
    | (go_at_call 47; (with_reducible refine Calls.mono (HSH.out _) ?_); rintro e yx ⟨rfl, hbx⟩; (try replace p0 := keep hbx p0); (try replace p1 := keep hbx p1); (try replace HM5 := Lib.hid (HM5.out.on hbx)); (try replace HM9 := Lib.hid (HM9.out.on hbx)); (try replace HM11 := Lib.hid (HM11.out.on hbx)); (try replace HM14 := Lib.hid (HM14.out.on hbx)); (try replace TC := Lib.hid (TC.out.bel hbx)); (first | replace BV := Lib.hid (belowT (show Below w.heap.size w _ by have Bq := BV.out; have Bz := Bq.size; (repeat (first | with_reducible exact Below.refl _ _ | with_reducible assumption | with_reducible refine Below.alloc ?_ (by first | (simp; done) | (simp; omega) | omega) _ | with_reducible refine Below.setCell ?_ (by first | (simp; done) | (simp; omega) | omega) _ | with_reducible refine Below.drew ?_ | with_reducible refine below_drewN ?_ _))) hbx) | have BV := Lib.hid (belowT (show Below w.heap.size w _ by (repeat (first | with_reducible exact Below.refl _ _ | with_reducible assumption | with_reducible refine Below.alloc ?_ (by first | (simp; done) | (simp; omega) | omega) _ | with_reducible refine Below.setCell ?_ (by first | (simp; done) | (simp; omega) | omega) _ | with_reducible refine Below.drew ?_ | with_reducible refine below_drewN ?_ _))) hbx)); clear hbx)
    | (go_at_call 49; (with_reducible refine Calls.mono (HCG.out _ BV.out) ?_); rintro e yx ⟨vc, rfl, hbx, Ac, cc, rfl, hGc, _⟩; (try replace p0 := keep hbx p0); (try replace p1 := keep hbx p1); (try replace HM5 := Lib.hid (HM5.out.on hbx)); (try replace HM9 := Lib.hid (HM9.out.on hbx)); (try replace HM11 := Lib.hid (HM11.out.on hbx)); (try replace HM14 := Lib.hid (HM14.out.on hbx)); (try replace TC := Lib.hid (TC.out.bel hbx)); (first | replace BV := Lib.hid (belowT (show Below w.heap.size w _ by have Bq := BV.out; have Bz := Bq.size; (repeat (first | with_reducible exact Below.refl _ _ | with_reducible assumption | with_reducible refine Below.alloc ?_ (by first | (simp; done) | (simp; omega) | omega) _ | with_reducible refine Below.setCell ?_ (by first | (simp; done) | (simp; omega) | omega) _ | with_reducible refine Below.drew ?_ | with_reducible refine below_drewN ?_ _))) hbx) | have BV := Lib.hid (belowT (show Below w.heap.size w _ by (repeat (first | with_reducible exact Below.refl _ _ | with_reducible assumption | with_reducible refine Below.alloc ?_ (by first | (simp; done) | (simp; omega) | omega) _ | with_reducible refine Below.setCell ?_ (by first | (simp; done) | (simp; omega) | omega) _ | with_reducible refine Below.drew ?_ | with_reducible refine below_drewN ?_ _))) hbx)); have TC := Lib.hid hGc; clear hGc; clear hbx)
    | (go_at_call 72; (with_reducible refine Calls.mono (HBO.out _ _ _ TC.out) ?_); rintro e yx ⟨rfl, hbx⟩; (try replace p0 := keep hbx p0); (try replace p1 := keep hbx p1); (try replace HM5 := Lib.hid (HM5.out.on hbx)); (try replace HM9 := Lib.hid (HM9.out.on hbx)); (try replace HM11 := Lib.hid (HM11.out.on hbx)); (try replace HM14 := Lib.hid (HM14.out.on hbx)); (try replace TC := Lib.hid (TC.out.bel hbx)); (first | replace BV := Lib.hid (belowT (show Below w.heap.size w _ by have Bq := BV.out; have Bz := Bq.size; (repeat (first | with_reducible exact Below.refl _ _ | with_reducible assumption | with_reducible refine Below.alloc ?_ (by first | (simp; done) | (simp; omega) | omega) _ | with_reducible refine Below.setCell ?_ (by first | (simp; done) | (simp; omega) | omega) _ | with_reducible refine Below.drew ?_ | with_reducible refine below_drewN ?_ _))) hbx) | have BV := Lib.hid (belowT (show Below w.heap.size w _ by (repeat (first | with_reducible exact Below.refl _ _ | with_reducible assumption | with_reducible refine Below.alloc ?_ (by first | (simp; done) | (simp; omega) | omega) _ | with_reducible refine Below.setCell ?_ (by first | (simp; done) | (simp; omega) | omega) _ | with_reducible refine Below.drew ?_ | with_reducible refine below_drewN ?_ _))) hbx)); clear hbx))
  obtain ⟨b7, hb7⟩ : ∃ b7, yx.heap.size = b7 := ⟨_, rfl⟩
  have hvv : Below yx.heap.size yx (yx.alloc (.cells #[.int .i64 0, .int .i64 0] 23)) := (Below.refl _ _).alloc (Nat.le_refl _) _
  have p0 : (yx.alloc (.cells #[.int .i64 0, .int .i64 0] 23)).cell? ⟨b7, 0, none⟩ = some (.int .i64 0) := by rw [← hb7]; simp [go_sem]
  have p1 : (yx.alloc (.cells #[.int .i64 0, .int .i64 0] 23)).cell? ⟨b7, 1, none⟩ = some (.int .i64 0) := by rw [← hb7]; simp [go_sem]
  replace HM5 := Lib.hid (HM5.out.on hvv)
  replace BV := Lib.hid (belowT BV.out hvv)
  clear hvv
  generalize (yx.alloc (.cells #[.int .i64 0, .int .i64 0] 23)) = v1 at *
  rw [hb7]
  clear hb7
  go_upto_region 7 with (first
    | (go_at_call 49; (with_reducible refine Calls.mono (HCG.out _ BV.out) ?_); rintro e yx ⟨vc, rfl, hbx, Ac, cc, rfl, hGc, _⟩; (try replace p0 := keep hbx p0); (try replace p1 := keep hbx p1); (try replace HM5 := Lib.hid (HM5.out.on hbx)); (try replace HM9 := Lib.hid (HM9.out.on hbx)); (try replace HM11 := Lib.hid (HM11.out.on hbx)); (try replace HM14 := Lib.hid (HM14.out.on hbx)); (try replace TC := Lib.hid (TC.out.bel hbx)); (first | replace BV := Lib.hid (belowT (show Below w.heap.size w _ by have Bq := BV.out; have Bz := Bq.size; (repeat (first | with_reducible exact Below.refl _ _ | with_reducible assumption | with_reducible refine Below.alloc ?_ (by first | (simp; done) | (simp; omega) | omega) _ | with_reducible refine Below.setCell ?_ (by first | (simp; done) | (simp; omega) | omega) _ | with_reducible refine Below.drew ?_ | with_reducible refine below_drewN ?_ _))) hbx) | have BV := Lib.hid (belowT (show Below w.heap.size w _ by (repeat (first | with_reducible exact Below.refl _ _ | with_reducible assumption | with_reducible refine Below.alloc ?_ (by first | (simp; done) | (simp; omega) | omega) _ | with_reducible refine Below.setCell ?_ (by first | (simp; done) | (simp; omega) | omega) _ | with_reducible refine Below.drew ?_ | with_reducible refine below_drewN ?_ _))) hbx)); have TC := Lib.hid hGc; clear hGc; clear hbx)
    | (go_at_call 73; (with_reducible refine Calls.mono (HBS.out _ _ _ TC.out) ?_); rintro e yx ⟨rfl, hbx⟩; (try replace p0 := keep hbx p0); (try replace p1 := keep hbx p1); (try replace HM5 := Lib.hid (HM5.out.on hbx)); (try replace HM9 := Lib.hid (HM9.out.on hbx)); (try replace HM11 := Lib.hid (HM11.out.on hbx)); (try replace HM14 := Lib.hid (HM14.out.on hbx)); (try replace TC := Lib.hid (TC.out.bel hbx)); (first | replace BV := Lib.hid (belowT (show Below w.heap.size w _ by have Bq := BV.out; have Bz := Bq.size; (repeat (first | with_reducible exact Below.refl _ _ | with_reducible assumption | with_reducible refine Below.alloc ?_ (by first | (simp; done) | (simp; omega) | omega) _ | with_reducible refine Below.setCell ?_ (by first | (simp; done) | (simp; omega) | omega) _ | with_reducible refine Below.drew ?_ | with_reducible refine below_drewN ?_ _))) hbx) | have BV := Lib.hid (belowT (show Below w.heap.size w _ by (repeat (first | with_reducible exact Below.refl _ _ | with_reducible assumption | with_reducible refine Below.alloc ?_ (by first | (simp; done) | (simp; omega) | omega) _ | with_reducible refine Below.setCell ?_ (by first | (simp; done) | (simp; omega) | omega) _ | with_reducible refine Below.drew ?_ | with_reducible refine below_drewN ?_ _))) hbx)); clear hbx)
    | (refine wl_st8n rfl _ _ rfl _ rfl rfl (F) rfl ?_))
  obtain ⟨b9, hb9⟩ : ∃ b9, yx.heap.size = b9 := ⟨_, rfl⟩
  have hvv : Below yx.heap.size yx (yx.alloc (.cells (arr F) 102)) := (Below.refl _ _).alloc (Nat.le_refl _) _
  have HM9 : Hid (IM (yx.alloc (.cells (arr F) 102)) b9 8 (F)) := Lib.hid (hb9 ▸ arr_im yx (F) 102)
  replace HM5 := Lib.hid (HM5.out.on hvv)
  replace p0 := keep hvv p0
  replace p1 := keep hvv p1
  replace BV := Lib.hid (belowT BV.out hvv)
  clear hvv
  generalize (yx.alloc (.cells (arr F) 102)) = v2 at *
  rw [hb9]
  clear hb9
  go_upto_region 8 with (first
    | (refine wl_ld8 rfl _ rfl w.heap.size rfl (flt h) HM5.out ?_)
    | (go_at_call 74; (with_reducible refine Calls.mono (HRS.out _) ?_); rintro e yx ⟨rfl, hbx⟩; (try replace p0 := keep hbx p0); (try replace p1 := keep hbx p1); (try replace HM5 := Lib.hid (HM5.out.on hbx)); (try replace HM9 := Lib.hid (HM9.out.on hbx)); (try replace HM11 := Lib.hid (HM11.out.on hbx)); (try replace HM14 := Lib.hid (HM14.out.on hbx)); (try replace TC := Lib.hid (TC.out.bel hbx)); (first | replace BV := Lib.hid (belowT (show Below w.heap.size w _ by have Bq := BV.out; have Bz := Bq.size; (repeat (first | with_reducible exact Below.refl _ _ | with_reducible assumption | with_reducible refine Below.alloc ?_ (by first | (simp; done) | (simp; omega) | omega) _ | with_reducible refine Below.setCell ?_ (by first | (simp; done) | (simp; omega) | omega) _ | with_reducible refine Below.drew ?_ | with_reducible refine below_drewN ?_ _))) hbx) | have BV := Lib.hid (belowT (show Below w.heap.size w _ by (repeat (first | with_reducible exact Below.refl _ _ | with_reducible assumption | with_reducible refine Below.alloc ?_ (by first | (simp; done) | (simp; omega) | omega) _ | with_reducible refine Below.setCell ?_ (by first | (simp; done) | (simp; omega) | omega) _ | with_reducible refine Below.drew ?_ | with_reducible refine below_drewN ?_ _))) hbx)); clear hbx)
    | (refine wl_st8n rfl _ _ rfl _ rfl rfl (fun _ => 0) rfl ?_))
  obtain ⟨b11, hb11⟩ : ∃ b11, yx.heap.size = b11 := ⟨_, rfl⟩
  have hvv : Below yx.heap.size yx (yx.alloc (.cells (arr (fun _ => 0)) 102)) := (Below.refl _ _).alloc (Nat.le_refl _) _
  have HM11 : Hid (IM (yx.alloc (.cells (arr (fun _ => 0)) 102)) b11 8 (fun _ => 0)) := Lib.hid (hb11 ▸ arr_im yx (fun _ => 0) 102)
  replace HM5 := Lib.hid (HM5.out.on hvv)
  replace HM9 := Lib.hid (HM9.out.on hvv)
  replace p0 := keep hvv p0
  replace p1 := keep hvv p1
  replace BV := Lib.hid (belowT BV.out hvv)
  clear hvv
  generalize (yx.alloc (.cells (arr (fun _ => 0)) 102)) = v3 at *
  rw [hb11]
  clear hb11
  go_upto_region 10 with (first
    | (refine wl_ld8 rfl _ rfl w.heap.size rfl (flt h) HM5.out ?_)
    | (go_at_call 75; (with_reducible refine Calls.mono (HBE.out _) ?_); rintro e yx ⟨rfl, hbx⟩; (try replace p0 := keep hbx p0); (try replace p1 := keep hbx p1); (try replace HM5 := Lib.hid (HM5.out.on hbx)); (try replace HM9 := Lib.hid (HM9.out.on hbx)); (try replace HM11 := Lib.hid (HM11.out.on hbx)); (try replace HM14 := Lib.hid (HM14.out.on hbx)); (try replace TC := Lib.hid (TC.out.bel hbx)); (first | replace BV := Lib.hid (belowT (show Below w.heap.size w _ by have Bq := BV.out; have Bz := Bq.size; (repeat (first | with_reducible exact Below.refl _ _ | with_reducible assumption | with_reducible refine Below.alloc ?_ (by first | (simp; done) | (simp; omega) | omega) _ | with_reducible refine Below.setCell ?_ (by first | (simp; done) | (simp; omega) | omega) _ | with_reducible refine Below.drew ?_ | with_reducible refine below_drewN ?_ _))) hbx) | have BV := Lib.hid (belowT (show Below w.heap.size w _ by (repeat (first | with_reducible exact Below.refl _ _ | with_reducible assumption | with_reducible refine Below.alloc ?_ (by first | (simp; done) | (simp; omega) | omega) _ | with_reducible refine Below.setCell ?_ (by first | (simp; done) | (simp; omega) | omega) _ | with_reducible refine Below.drew ?_ | with_reducible refine below_drewN ?_ _))) hbx)); clear hbx))
  have hlt : w.heap.size < yx.heap.size ∧ b7 < yx.heap.size ∧ b9 < yx.heap.size ∧ b11 < yx.heap.size := ⟨HM5.out.1, lt_of p0, HM9.out.1, HM11.out.1⟩
  obtain ⟨b14, hb14⟩ : ∃ b14, yx.heap.size = b14 := ⟨_, rfl⟩
  have hvv : Below yx.heap.size yx (yx.alloc (.cells #[.int .i64 0, .int .i64 0, .int .i64 0, .int .i64 0, .int .i64 0, .int .i64 0, .int .i64 0, .int .i64 0] 102)) := (Below.refl _ _).alloc (Nat.le_refl _) _
  have HM14 : Hid (IM (yx.alloc (.cells #[.int .i64 0, .int .i64 0, .int .i64 0, .int .i64 0, .int .i64 0, .int .i64 0, .int .i64 0, .int .i64 0] 102)) b14 8 (fun _ => 0)) := Lib.hid (hb14 ▸ arr_im yx (fun _ => 0) 102)
  replace HM5 := Lib.hid (HM5.out.on hvv)
  replace HM9 := Lib.hid (HM9.out.on hvv)
  replace HM11 := Lib.hid (HM11.out.on hvv)
  replace p0 := keep hvv p0
  replace p1 := keep hvv p1
  replace BV := Lib.hid (belowT BV.out hvv)
  clear hvv
  generalize (yx.alloc (.cells #[.int .i64 0, .int .i64 0, .int .i64 0, .int .i64 0, .int .i64 0, .int .i64 0, .int .i64 0, .int .i64 0] 102)) = v4 at *
  rw [hb14] at hlt ⊢
  clear hb14
  go_upto_region 12 with fail
  have ca0 : _ = some (Value.int .i64 0) := (HM11.out.2 0 (by omega)).1; have ca1 : _ = some (Value.int .i64 0) := (HM11.out.2 1 (by omega)).1; have ca2 : _ = some (Value.int .i64 0) := (HM11.out.2 2 (by omega)).1; have ca3 : _ = some (Value.int .i64 0) := (HM11.out.2 3 (by omega)).1; have ca4 : _ = some (Value.int .i64 0) := (HM11.out.2 4 (by omega)).1; have ca5 : _ = some (Value.int .i64 0) := (HM11.out.2 5 (by omega)).1; have ca6 : _ = some (Value.int .i64 0) := (HM11.out.2 6 (by omega)).1; have ca7 : _ = some (Value.int .i64 0) := (HM11.out.2 7 (by omega)).1
  have cb0 : _ = some (Value.int .i64 0) := (HM14.out.2 0 (by omega)).1; have cb1 : _ = some (Value.int .i64 0) := (HM14.out.2 1 (by omega)).1; have cb2 : _ = some (Value.int .i64 0) := (HM14.out.2 2 (by omega)).1; have cb3 : _ = some (Value.int .i64 0) := (HM14.out.2 3 (by omega)).1; have cb4 : _ = some (Value.int .i64 0) := (HM14.out.2 4 (by omega)).1; have cb5 : _ = some (Value.int .i64 0) := (HM14.out.2 5 (by omega)).1; have cb6 : _ = some (Value.int .i64 0) := (HM14.out.2 6 (by omega)).1; have cb7 : _ = some (Value.int .i64 0) := (HM14.out.2 7 (by omega)).1
  go_upto_region 17 with (first
    | (refine wl_arN _ _ _ rfl rfl (fun _ => 0) rfl rfl ?_)
    | (go_at_call 53; (with_reducible refine Calls.mono (HSE.out _ BV.out) ?_); rintro e yx ⟨rfl, hbx⟩; (try replace p0 := keep hbx p0); (try replace p1 := keep hbx p1); (try replace HM5 := Lib.hid (HM5.out.on hbx)); (try replace HM9 := Lib.hid (HM9.out.on hbx)); (try replace HM11 := Lib.hid (HM11.out.on hbx)); (try replace HM14 := Lib.hid (HM14.out.on hbx)); (try replace TC := Lib.hid (TC.out.bel hbx)); (first | replace BV := Lib.hid (belowT (show Below w.heap.size w _ by have Bq := BV.out; have Bz := Bq.size; (repeat (first | with_reducible exact Below.refl _ _ | with_reducible assumption | with_reducible refine Below.alloc ?_ (by first | (simp; done) | (simp; omega) | omega) _ | with_reducible refine Below.setCell ?_ (by first | (simp; done) | (simp; omega) | omega) _ | with_reducible refine Below.drew ?_ | with_reducible refine below_drewN ?_ _))) hbx) | have BV := Lib.hid (belowT (show Below w.heap.size w _ by (repeat (first | with_reducible exact Below.refl _ _ | with_reducible assumption | with_reducible refine Below.alloc ?_ (by first | (simp; done) | (simp; omega) | omega) _ | with_reducible refine Below.setCell ?_ (by first | (simp; done) | (simp; omega) | omega) _ | with_reducible refine Below.drew ?_ | with_reducible refine below_drewN ?_ _))) hbx)); clear hbx))
  clear ca0 cb0 ca1 cb1 ca2 cb2 ca3 cb3 ca4 cb4 ca5 cb5 ca6 cb6 ca7 cb7
  generalize yx = vx at *
  refine wp_region_gd [mpEq (.int .i64 0), mpEq (.bool false), mpEq (.bool false), mpEq (.agg (arr F)), mpEq (.slice A n c), mpEq (.agg (arr F)), mpEq (.bool false), mpEq (.bool false)] qf0 (by kernel_rfl) (by kernel_rfl) (by kernel_rfl) (
        allOps_cons (fun a' w' hb hs hd => Or.inl ⟨wanted_n rfl, rg_op fun K hK => by
      have e0 := (hs.get 10 (by kernel_rfl)).trans (show _ = .int .i64 0 from rfl)
      have ec : ∀ v, a'.eval (.const v) = v := fun _ => rfl
      clear hs hd
      unfold Oper.wp
      generalize a'.eval = ρ at e0 ec ⊢
      simp [go_sem, e0]
      exact hK _ _ (Below.refl _ _) rfl⟩) <|
        allOps_cons (fun a' w' hb hs hd => Or.inl ⟨wanted_n rfl, rg_op fun K hK => by
      have e0 := (show a'.eval (.tmp 79) = .int .i64 0 from hd.get 0 79 (by kernel_rfl) (by kernel_rfl))
      have ec : ∀ v, a'.eval (.const v) = v := fun _ => rfl
      clear hs hd
      unfold Oper.wp
      generalize a'.eval = ρ at e0 ec ⊢
      simp [go_sem, e0, ec]
      exact hK _ _ (Below.refl _ _) rfl⟩) <|
        allOps_cons (fun a' w' hb hs hd => Or.inl ⟨wanted_n rfl, rg_op fun K hK => by
      have e0 := (show a'.eval (.tmp 80) = .bool false from hd.get 1 80 (by kernel_rfl) (by kernel_rfl))
      have ec : ∀ v, a'.eval (.const v) = v := fun _ => rfl
      clear hs hd
      unfold Oper.wp
      generalize a'.eval = ρ at e0 ec ⊢
      simp [go_sem, e0]
      exact hK _ _ (Below.refl _ _) rfl⟩) <|
        allOps_cons (fun a' w' hb hs hd => Or.inl ⟨wanted_t (j := 2) (d := 81) rfl (by kernel_rfl) (show a'.eval (.tmp 81) = .bool false from hd.get 2 81 (by kernel_rfl) (by kernel_rfl)), rg_op fun K hK => by
      have e0 : a'.eval (.tmp 9) = .pointer (some ⟨b9, 0, none⟩) := (hs.get 9 (by kernel_rfl)).trans (show _ = Value.pointer (some ⟨b9, 0, none⟩) from rfl)
      exact op_ld8 rfl e0 (HM9.out.on hb) (hK _ _ (Below.refl _ _) rfl)⟩) <|
        allOps_cons (fun a' w' hb hs hd => Or.inl ⟨wanted_t (j := 2) (d := 81) rfl (by kernel_rfl) (show a'.eval (.tmp 81) = .bool false from hd.get 2 81 (by kernel_rfl) (by kernel_rfl)), rg_op fun K hK => by
      have e0 := (hs.get 0 (by kernel_rfl)).trans (show _ = .slice A n c from rfl)
      have ec : ∀ v, a'.eval (.const v) = v := fun _ => rfl
      clear hs hd
      unfold Oper.wp
      generalize a'.eval = ρ at e0 ec ⊢
      simp [go_sem, e0]
      exact hK _ _ (Below.refl _ _) rfl⟩) <|
        allOps_cons (fun a' w' hb hs hd => Or.inl ⟨wanted_t (j := 2) (d := 81) rfl (by kernel_rfl) (show a'.eval (.tmp 81) = .bool false from hd.get 2 81 (by kernel_rfl) (by kernel_rfl)), by
      exact rg_fn (φ := (mpEq (.agg (arr F))).p) (vs := #[.slice A n c]) rfl (enters_of Try.func77 (by kernel_rfl) rfl) (by simp [(show a'.eval (.tmp 83) = .slice A n c from hd.get 4 83 (by kernel_rfl) (by kernel_rfl))]) ((HRB.out w' (belowT BV.out hb)).mono (by rintro e w1 ⟨rfl, h1⟩; exact ⟨_, rfl, h1, rfl⟩))⟩) <|
        allOps_cons (fun a' w' hb hs hd => Or.inl ⟨wanted_t (j := 2) (d := 81) rfl (by kernel_rfl) (show a'.eval (.tmp 81) = .bool false from hd.get 2 81 (by kernel_rfl) (by kernel_rfl)), rg_op fun K hK => by
      have e0 : a'.eval (.tmp 82) = .agg (arr F) := (show a'.eval (.tmp 82) = .agg (arr F) from hd.get 3 82 (by kernel_rfl) (by kernel_rfl))
      have e1 : a'.eval (.tmp 84) = .agg (arr F) := (show a'.eval (.tmp 84) = .agg (arr F) from hd.get 5 84 (by kernel_rfl) (by kernel_rfl))
      exact op_arN rfl e0 e1 (hK _ _ (Below.refl _ _) rfl)⟩) <|
        allOps_cons (fun a' w' hb hs hd => Or.inl ⟨wanted_n rfl, rg_op fun K hK => by
      have e0 := (show a'.eval (.tmp 81) = .bool false from hd.get 2 81 (by kernel_rfl) (by kernel_rfl))
      have e1 := (show a'.eval (.tmp 85) = .bool false from hd.get 6 85 (by kernel_rfl) (by kernel_rfl))
      have ec : ∀ v, a'.eval (.const v) = v := fun _ => rfl
      clear hs hd
      unfold Oper.wp
      generalize a'.eval = ρ at e0 e1 ec ⊢
      simp [go_sem, e0, e1, ec]
      exact hK _ _ (Below.refl _ _) rfl⟩) <| allOps_nil) (fun V v5 hv5 hall => ?_)
  have h86 : V 86 = .bool false := hall.get 7 rfl
  clear hall
  simp only [qf0, maskPut, Nat.reduceAdd]
  rw [h86]
  clear h86
  replace BV := Lib.hid (belowT BV.out hv5)
  replace p0 := keep hv5 p0
  replace p1 := keep hv5 p1
  clear hv5 HM5 HM9 HM11 HM14
  go_wp2_with (first
    | (go_at_call 67; (with_reducible refine Calls.mono (HQE.out _) ?_); rintro e yx ⟨rfl, hbx⟩; (try replace p0 := keep hbx p0); (try replace p1 := keep hbx p1); (try replace HM5 := Lib.hid (HM5.out.on hbx)); (try replace HM9 := Lib.hid (HM9.out.on hbx)); (try replace HM11 := Lib.hid (HM11.out.on hbx)); (try replace HM14 := Lib.hid (HM14.out.on hbx)); (try replace TC := Lib.hid (TC.out.bel hbx)); (first | replace BV := Lib.hid (belowT (show Below w.heap.size w _ by have Bq := BV.out; have Bz := Bq.size; (repeat (first | with_reducible exact Below.refl _ _ | with_reducible assumption | with_reducible refine Below.alloc ?_ (by first | (simp; done) | (simp; omega) | omega) _ | with_reducible refine Below.setCell ?_ (by first | (simp; done) | (simp; omega) | omega) _ | with_reducible refine Below.drew ?_ | with_reducible refine below_drewN ?_ _))) hbx) | have BV := Lib.hid (belowT (show Below w.heap.size w _ by (repeat (first | with_reducible exact Below.refl _ _ | with_reducible assumption | with_reducible refine Below.alloc ?_ (by first | (simp; done) | (simp; omega) | omega) _ | with_reducible refine Below.setCell ?_ (by first | (simp; done) | (simp; omega) | omega) _ | with_reducible refine Below.drew ?_ | with_reducible refine below_drewN ?_ _))) hbx)); clear hbx))
  go_ret
  exact ⟨rfl, BV.out⟩
set_option maxRecDepth 100000 in
set_option maxHeartbeats 4000000 in
theorem sb_qB (A : Option Addr) (n c : Nat) (g : Nat → Int × Int) (q : Int) (h : Nat → Int × Int) (w : World) (hs : shr n = true) (hD : smE n g = 0) (hw : wi q 0 3 = false) (hB : b4E 8000 h = 0) (hG : GS w (.slice A n c) n g) :
    Calls Try.prog 12 #[.slice A n c, .int .i64 q, .agg (arr (flt h))] w fun e w' => e = .returned (.bool true) ∧ Below w.heap.size w w' := by
  have hn : n ≤ 404 := by unfold shr at hs; simp at hs; omega
  have hA : GA w A n g := by obtain ⟨A', c', e, h, _⟩ := hG; cases e; exact h
  have hE : boE n g q = 2 := by unfold boE fs2 rgE; rw [hD, hw]; rfl
  have HSH := Lib.hid (fun W => short_any A n c W)
  rw [hs] at HSH
  have HCG := Lib.hid (fun W (hW : Below w.heap.size w W) => copyG_any (.slice A n c) n g W (by omega) (hG.on hW))
  have HBO := Lib.hid (fun A1 c1 W (h : GA W A1 n g) => binOfS_all A1 n c1 g q (2) 0 0 hE (fun e => absurd e (by decide)) (fun _ => ⟨rfl, rfl⟩) W (by omega) h)
  obtain ⟨F, hF⟩ : ∃ F, bnF g n = F := ⟨_, rfl⟩
  have HBS := Lib.hid (fun A1 c1 W (h : GA W A1 n g) => binsOfS_all A1 n c1 g (0) F hD (fun _ => hF.symm) (fun e => absurd rfl e) W (by omega) h)
  have HRB := Lib.hid (fun W (hW : Below w.heap.size w W) => binsOfR_arr A n c g hD W (hA.bel hW))
  rw [hF] at HRB
  have HSE := Lib.hid (fun W (hW : Below w.heap.size w W) => samplesErr_any A n c g W (by omega) (hA.bel hW))
  rw [hD] at HSE
  have HQE := Lib.hid (fun W => quarterErr_any q W)
  rw [show rgE q 0 3 = 2 by unfold rgE; rw [hw]; rfl] at HQE
  have HBE := Lib.hid (fun W => binsErr_arr h W)
  rw [hB] at HBE
  obtain ⟨z, Er, hz1, hz2⟩ := restored_both h hB
  have HRS := Lib.hid hz1
  have HRR := Lib.hid hz2
  clear hz1 hz2
  clear hA hG hE hs hD hB hF
  go_enter Try.func12, Try.ntmps12
  go_upto_region 6 with (first
    | (go_at_call 17; (with_reducible refine Calls.mono (awake_any _) ?_); rintro e yx ⟨rfl, hbx⟩; (try replace p0 := keep hbx p0); (try replace p1 := keep hbx p1); (try replace HM5 := Lib.hid (HM5.out.on hbx)); (try replace HM9 := Lib.hid (HM9.out.on hbx)); (try replace HM11 := Lib.hid (HM11.out.on hbx)); (try replace HM14 := Lib.hid (HM14.out.on hbx)); (try replace TC := Lib.hid (TC.out.bel hbx)); (first | replace BV := Lib.hid (belowT (show Below w.heap.size w _ by have Bq := BV.out; have Bz := Bq.size; (repeat (first | with_reducible exact Below.refl _ _ | with_reducible assumption | with_reducible refine Below.alloc ?_ (by first | (simp; done) | (simp; omega) | omega) _ | with_reducible refine Below.setCell ?_ (by first | (simp; done) | (simp; omega) | omega) _ | with_reducible refine Below.drew ?_ | with_reducible refine below_drewN ?_ _))) hbx) | have BV := Lib.hid (belowT (show Below w.heap.size w _ by (repeat (first | with_reducible exact Below.refl _ _ | with_reducible assumption | with_reducible refine Below.alloc ?_ (by first | (simp; done) | (simp; omega) | omega) _ | with_reducible refine Below.setCell ?_ (by first | (simp; done) | (simp; omega) | omega) _ | with_reducible refine Below.drew ?_ | with_reducible refine below_drewN ?_ _))) hbx)); have HM5 : Hid (IM yx w.heap.size 8 (flt h)) := Lib.hid (IM.on (arr_im w (flt h) 102) hbx); clear hbx)
    | (go_at_call 47; (with_reducible refine Calls.mono (HSH.out _) ?_); rintro e yx ⟨rfl, hbx⟩; (try replace p0 := keep hbx p0); (try replace p1 := keep hbx p1); (try replace HM5 := Lib.hid (HM5.out.on hbx)); (try replace HM9 := Lib.hid (HM9.out.on hbx)); (try replace HM11 := Lib.hid (HM11.out.on hbx)); (try replace HM14 := Lib.hid (HM14.out.on hbx)); (try replace TC := Lib.hid (TC.out.bel hbx)); (first | replace BV := Lib.hid (belowT (show Below w.heap.size w _ by have Bq := BV.out; have Bz := Bq.size; (repeat (first | with_reducible exact Below.refl _ _ | with_reducible assumption | with_reducible refine Below.alloc ?_ (by first | (simp; done) | (simp; omega) | omega) _ | with_reducible refine Below.setCell ?_ (by first | (simp; done) | (simp; omega) | omega) _ | with_reducible refine Below.drew ?_ | with_reducible refine below_drewN ?_ _))) hbx) | have BV := Lib.hid (belowT (show Below w.heap.size w _ by (repeat (first | with_reducible exact Below.refl _ _ | with_reducible assumption | with_reducible refine Below.alloc ?_ (by first | (simp; done) | (simp; omega) | omega) _ | with_reducible refine Below.setCell ?_ (by first | (simp; done) | (simp; omega) | omega) _ | with_reducible refine Below.drew ?_ | with_reducible refine below_drewN ?_ _))) hbx)); clear hbx)
    | (go_at_call 49; (with_reducible refine Calls.mono (HCG.out _ BV.out) ?_); rintro e yx ⟨vc, rfl, hbx, Ac, cc, rfl, hGc, _⟩; (try replace p0 := keep hbx p0); (try replace p1 := keep hbx p1); (try replace HM5 := Lib.hid (HM5.out.on hbx)); (try replace HM9 := Lib.hid (HM9.out.on hbx)); (try replace HM11 := Lib.hid (HM11.out.on hbx)); (try replace HM14 := Lib.hid (HM14.out.on hbx)); (try replace TC := Lib.hid (TC.out.bel hbx)); (first | replace BV := Lib.hid (belowT (show Below w.heap.size w _ by have Bq := BV.out; have Bz := Bq.size; (repeat (first | with_reducible exact Below.refl _ _ | with_reducible assumption | with_reducible refine Below.alloc ?_ (by first | (simp; done) | (simp; omega) | omega) _ | with_reducible refine Below.setCell ?_ (by first | (simp; done) | (simp; omega) | omega) _ | with_reducible refine Below.drew ?_ | with_reducible refine below_drewN ?_ _))) hbx) | have BV := Lib.hid (belowT (show Below w.heap.size w _ by (repeat (first | with_reducible exact Below.refl _ _ | with_reducible assumption | with_reducible refine Below.alloc ?_ (by first | (simp; done) | (simp; omega) | omega) _ | with_reducible refine Below.setCell ?_ (by first | (simp; done) | (simp; omega) | omega) _ | with_reducible refine Below.drew ?_ | with_reducible refine below_drewN ?_ _))) hbx)); have TC := Lib.hid hGc; clear hGc; clear hbx)
    | (go_at_call 72; (with_reducible refine Calls.mono (HBO.out _ _ _ TC.out) ?_); rintro e yx ⟨rfl, hbx⟩; (try replace p0 := keep hbx p0); (try replace p1 := keep hbx p1); (try replace HM5 := Lib.hid (HM5.out.on hbx)); (try replace HM9 := Lib.hid (HM9.out.on hbx)); (try replace HM11 := Lib.hid (HM11.out.on hbx)); (try replace HM14 := Lib.hid (HM14.out.on hbx)); (try replace TC := Lib.hid (TC.out.bel hbx)); (first | replace BV := Lib.hid (belowT (show Below w.heap.size w _ by have Bq := BV.out; have Bz := Bq.size; (repeat (first | with_reducible exact Below.refl _ _ | with_reducible assumption | with_reducible refine Below.alloc ?_ (by first | (simp; done) | (simp; omega) | omega) _ | with_reducible refine Below.setCell ?_ (by first | (simp; done) | (simp; omega) | omega) _ | with_reducible refine Below.drew ?_ | with_reducible refine below_drewN ?_ _))) hbx) | have BV := Lib.hid (belowT (show Below w.heap.size w _ by (repeat (first | with_reducible exact Below.refl _ _ | with_reducible assumption | with_reducible refine Below.alloc ?_ (by first | (simp; done) | (simp; omega) | omega) _ | with_reducible refine Below.setCell ?_ (by first | (simp; done) | (simp; omega) | omega) _ | with_reducible refine Below.drew ?_ | with_reducible refine below_drewN ?_ _))) hbx)); clear hbx))
  obtain ⟨b7, hb7⟩ : ∃ b7, yx.heap.size = b7 := ⟨_, rfl⟩
  have hvv : Below yx.heap.size yx (yx.alloc (.cells #[.int .i64 0, .int .i64 0] 23)) := (Below.refl _ _).alloc (Nat.le_refl _) _
  have p0 : (yx.alloc (.cells #[.int .i64 0, .int .i64 0] 23)).cell? ⟨b7, 0, none⟩ = some (.int .i64 0) := by rw [← hb7]; simp [go_sem]
  have p1 : (yx.alloc (.cells #[.int .i64 0, .int .i64 0] 23)).cell? ⟨b7, 1, none⟩ = some (.int .i64 0) := by rw [← hb7]; simp [go_sem]
  replace HM5 := Lib.hid (HM5.out.on hvv)
  replace BV := Lib.hid (belowT BV.out hvv)
  clear hvv
  generalize (yx.alloc (.cells #[.int .i64 0, .int .i64 0] 23)) = v1 at *
  rw [hb7]
  clear hb7
  go_upto_region 7 with (first
    | (go_at_call 49; (with_reducible refine Calls.mono (HCG.out _ BV.out) ?_); rintro e yx ⟨vc, rfl, hbx, Ac, cc, rfl, hGc, _⟩; (try replace p0 := keep hbx p0); (try replace p1 := keep hbx p1); (try replace HM5 := Lib.hid (HM5.out.on hbx)); (try replace HM9 := Lib.hid (HM9.out.on hbx)); (try replace HM11 := Lib.hid (HM11.out.on hbx)); (try replace HM14 := Lib.hid (HM14.out.on hbx)); (try replace TC := Lib.hid (TC.out.bel hbx)); (first | replace BV := Lib.hid (belowT (show Below w.heap.size w _ by have Bq := BV.out; have Bz := Bq.size; (repeat (first | with_reducible exact Below.refl _ _ | with_reducible assumption | with_reducible refine Below.alloc ?_ (by first | (simp; done) | (simp; omega) | omega) _ | with_reducible refine Below.setCell ?_ (by first | (simp; done) | (simp; omega) | omega) _ | with_reducible refine Below.drew ?_ | with_reducible refine below_drewN ?_ _))) hbx) | have BV := Lib.hid (belowT (show Below w.heap.size w _ by (repeat (first | with_reducible exact Below.refl _ _ | with_reducible assumption | with_reducible refine Below.alloc ?_ (by first | (simp; done) | (simp; omega) | omega) _ | with_reducible refine Below.setCell ?_ (by first | (simp; done) | (simp; omega) | omega) _ | with_reducible refine Below.drew ?_ | with_reducible refine below_drewN ?_ _))) hbx)); have TC := Lib.hid hGc; clear hGc; clear hbx)
    | (go_at_call 73; (with_reducible refine Calls.mono (HBS.out _ _ _ TC.out) ?_); rintro e yx ⟨rfl, hbx⟩; (try replace p0 := keep hbx p0); (try replace p1 := keep hbx p1); (try replace HM5 := Lib.hid (HM5.out.on hbx)); (try replace HM9 := Lib.hid (HM9.out.on hbx)); (try replace HM11 := Lib.hid (HM11.out.on hbx)); (try replace HM14 := Lib.hid (HM14.out.on hbx)); (try replace TC := Lib.hid (TC.out.bel hbx)); (first | replace BV := Lib.hid (belowT (show Below w.heap.size w _ by have Bq := BV.out; have Bz := Bq.size; (repeat (first | with_reducible exact Below.refl _ _ | with_reducible assumption | with_reducible refine Below.alloc ?_ (by first | (simp; done) | (simp; omega) | omega) _ | with_reducible refine Below.setCell ?_ (by first | (simp; done) | (simp; omega) | omega) _ | with_reducible refine Below.drew ?_ | with_reducible refine below_drewN ?_ _))) hbx) | have BV := Lib.hid (belowT (show Below w.heap.size w _ by (repeat (first | with_reducible exact Below.refl _ _ | with_reducible assumption | with_reducible refine Below.alloc ?_ (by first | (simp; done) | (simp; omega) | omega) _ | with_reducible refine Below.setCell ?_ (by first | (simp; done) | (simp; omega) | omega) _ | with_reducible refine Below.drew ?_ | with_reducible refine below_drewN ?_ _))) hbx)); clear hbx)
    | (refine wl_st8n rfl _ _ rfl _ rfl rfl (F) rfl ?_))
  obtain ⟨b9, hb9⟩ : ∃ b9, yx.heap.size = b9 := ⟨_, rfl⟩
  have hvv : Below yx.heap.size yx (yx.alloc (.cells (arr F) 102)) := (Below.refl _ _).alloc (Nat.le_refl _) _
  have HM9 : Hid (IM (yx.alloc (.cells (arr F) 102)) b9 8 (F)) := Lib.hid (hb9 ▸ arr_im yx (F) 102)
  replace HM5 := Lib.hid (HM5.out.on hvv)
  replace p0 := keep hvv p0
  replace p1 := keep hvv p1
  replace BV := Lib.hid (belowT BV.out hvv)
  clear hvv
  generalize (yx.alloc (.cells (arr F) 102)) = v2 at *
  rw [hb9]
  clear hb9
  go_upto_region 8 with (first
    | (refine wl_ld8 rfl _ rfl w.heap.size rfl (flt h) HM5.out ?_)
    | (go_at_call 74; (with_reducible refine Calls.mono (HRS.out _) ?_); rintro e yx ⟨rfl, hbx⟩; (try replace p0 := keep hbx p0); (try replace p1 := keep hbx p1); (try replace HM5 := Lib.hid (HM5.out.on hbx)); (try replace HM9 := Lib.hid (HM9.out.on hbx)); (try replace HM11 := Lib.hid (HM11.out.on hbx)); (try replace HM14 := Lib.hid (HM14.out.on hbx)); (try replace TC := Lib.hid (TC.out.bel hbx)); (first | replace BV := Lib.hid (belowT (show Below w.heap.size w _ by have Bq := BV.out; have Bz := Bq.size; (repeat (first | with_reducible exact Below.refl _ _ | with_reducible assumption | with_reducible refine Below.alloc ?_ (by first | (simp; done) | (simp; omega) | omega) _ | with_reducible refine Below.setCell ?_ (by first | (simp; done) | (simp; omega) | omega) _ | with_reducible refine Below.drew ?_ | with_reducible refine below_drewN ?_ _))) hbx) | have BV := Lib.hid (belowT (show Below w.heap.size w _ by (repeat (first | with_reducible exact Below.refl _ _ | with_reducible assumption | with_reducible refine Below.alloc ?_ (by first | (simp; done) | (simp; omega) | omega) _ | with_reducible refine Below.setCell ?_ (by first | (simp; done) | (simp; omega) | omega) _ | with_reducible refine Below.drew ?_ | with_reducible refine below_drewN ?_ _))) hbx)); clear hbx)
    | (refine wl_st8n rfl _ _ rfl _ rfl rfl (z) rfl ?_))
  obtain ⟨b11, hb11⟩ : ∃ b11, yx.heap.size = b11 := ⟨_, rfl⟩
  have hvv : Below yx.heap.size yx (yx.alloc (.cells (arr (z)) 102)) := (Below.refl _ _).alloc (Nat.le_refl _) _
  have HM11 : Hid (IM (yx.alloc (.cells (arr (z)) 102)) b11 8 (z)) := Lib.hid (hb11 ▸ arr_im yx (z) 102)
  replace HM5 := Lib.hid (HM5.out.on hvv)
  replace HM9 := Lib.hid (HM9.out.on hvv)
  replace p0 := keep hvv p0
  replace p1 := keep hvv p1
  replace BV := Lib.hid (belowT BV.out hvv)
  clear hvv
  generalize (yx.alloc (.cells (arr (z)) 102)) = v3 at *
  rw [hb11]
  clear hb11
  go_upto_region 10 with (first
    | (refine wl_ld8 rfl _ rfl w.heap.size rfl (flt h) HM5.out ?_)
    | (go_at_call 75; (with_reducible refine Calls.mono (HBE.out _) ?_); rintro e yx ⟨rfl, hbx⟩; (try replace p0 := keep hbx p0); (try replace p1 := keep hbx p1); (try replace HM5 := Lib.hid (HM5.out.on hbx)); (try replace HM9 := Lib.hid (HM9.out.on hbx)); (try replace HM11 := Lib.hid (HM11.out.on hbx)); (try replace HM14 := Lib.hid (HM14.out.on hbx)); (try replace TC := Lib.hid (TC.out.bel hbx)); (first | replace BV := Lib.hid (belowT (show Below w.heap.size w _ by have Bq := BV.out; have Bz := Bq.size; (repeat (first | with_reducible exact Below.refl _ _ | with_reducible assumption | with_reducible refine Below.alloc ?_ (by first | (simp; done) | (simp; omega) | omega) _ | with_reducible refine Below.setCell ?_ (by first | (simp; done) | (simp; omega) | omega) _ | with_reducible refine Below.drew ?_ | with_reducible refine below_drewN ?_ _))) hbx) | have BV := Lib.hid (belowT (show Below w.heap.size w _ by (repeat (first | with_reducible exact Below.refl _ _ | with_reducible assumption | with_reducible refine Below.alloc ?_ (by first | (simp; done) | (simp; omega) | omega) _ | with_reducible refine Below.setCell ?_ (by first | (simp; done) | (simp; omega) | omega) _ | with_reducible refine Below.drew ?_ | with_reducible refine below_drewN ?_ _))) hbx)); clear hbx))
  have hlt : w.heap.size < yx.heap.size ∧ b7 < yx.heap.size ∧ b9 < yx.heap.size ∧ b11 < yx.heap.size := ⟨HM5.out.1, lt_of p0, HM9.out.1, HM11.out.1⟩
  obtain ⟨b14, hb14⟩ : ∃ b14, yx.heap.size = b14 := ⟨_, rfl⟩
  have hvv : Below yx.heap.size yx (yx.alloc (.cells #[.int .i64 0, .int .i64 0, .int .i64 0, .int .i64 0, .int .i64 0, .int .i64 0, .int .i64 0, .int .i64 0] 102)) := (Below.refl _ _).alloc (Nat.le_refl _) _
  have HM14 : Hid (IM (yx.alloc (.cells #[.int .i64 0, .int .i64 0, .int .i64 0, .int .i64 0, .int .i64 0, .int .i64 0, .int .i64 0, .int .i64 0] 102)) b14 8 (fun _ => 0)) := Lib.hid (hb14 ▸ arr_im yx (fun _ => 0) 102)
  replace HM5 := Lib.hid (HM5.out.on hvv)
  replace HM9 := Lib.hid (HM9.out.on hvv)
  replace HM11 := Lib.hid (HM11.out.on hvv)
  replace p0 := keep hvv p0
  replace p1 := keep hvv p1
  replace BV := Lib.hid (belowT BV.out hvv)
  clear hvv
  generalize (yx.alloc (.cells #[.int .i64 0, .int .i64 0, .int .i64 0, .int .i64 0, .int .i64 0, .int .i64 0, .int .i64 0, .int .i64 0] 102)) = v4 at *
  rw [hb14] at hlt ⊢
  clear hb14
  go_upto_region 12 with (first
    | (refine wl_ld8 rfl _ rfl w.heap.size rfl (flt h) HM5.out ?_)
    | (go_at_call 76; (with_reducible refine Calls.mono (HRR.out _) ?_); rintro e yx ⟨rfl, hbx⟩; (try replace p0 := keep hbx p0); (try replace p1 := keep hbx p1); (try replace HM5 := Lib.hid (HM5.out.on hbx)); (try replace HM9 := Lib.hid (HM9.out.on hbx)); (try replace HM11 := Lib.hid (HM11.out.on hbx)); (try replace HM14 := Lib.hid (HM14.out.on hbx)); (try replace TC := Lib.hid (TC.out.bel hbx)); (first | replace BV := Lib.hid (belowT (show Below w.heap.size w _ by have Bq := BV.out; have Bz := Bq.size; (repeat (first | with_reducible exact Below.refl _ _ | with_reducible assumption | with_reducible refine Below.alloc ?_ (by first | (simp; done) | (simp; omega) | omega) _ | with_reducible refine Below.setCell ?_ (by first | (simp; done) | (simp; omega) | omega) _ | with_reducible refine Below.drew ?_ | with_reducible refine below_drewN ?_ _))) hbx) | have BV := Lib.hid (belowT (show Below w.heap.size w _ by (repeat (first | with_reducible exact Below.refl _ _ | with_reducible assumption | with_reducible refine Below.alloc ?_ (by first | (simp; done) | (simp; omega) | omega) _ | with_reducible refine Below.setCell ?_ (by first | (simp; done) | (simp; omega) | omega) _ | with_reducible refine Below.drew ?_ | with_reducible refine below_drewN ?_ _))) hbx)); clear hbx)
    | (refine wl_st8 rfl _ _ rfl b14 rfl (fun _ => 0) z HM14.out rfl ?_; intro w7 hM7 hB7; replace HM14 := Lib.hid hM7; replace HM5 := Lib.hid (HM5.out.onB hB7 (by omega)); replace HM9 := Lib.hid (HM9.out.onB hB7 (by omega)); replace HM11 := Lib.hid (HM11.out.onB hB7 (by omega)); replace p0 := (hB7.cell (p := ⟨b7, 0, none⟩) (by show b7 < b14; omega)).trans p0; replace p1 := (hB7.cell (p := ⟨b7, 1, none⟩) (by show b7 < b14; omega)).trans p1; replace BV := Lib.hid (BV.out.trans (hB7.mono (by omega))); clear hM7 hB7))
  have ca0 : _ = some (Value.int .i64 (z 0)) := (HM11.out.2 0 (by omega)).1; have ca1 : _ = some (Value.int .i64 (z 1)) := (HM11.out.2 1 (by omega)).1; have ca2 : _ = some (Value.int .i64 (z 2)) := (HM11.out.2 2 (by omega)).1; have ca3 : _ = some (Value.int .i64 (z 3)) := (HM11.out.2 3 (by omega)).1; have ca4 : _ = some (Value.int .i64 (z 4)) := (HM11.out.2 4 (by omega)).1; have ca5 : _ = some (Value.int .i64 (z 5)) := (HM11.out.2 5 (by omega)).1; have ca6 : _ = some (Value.int .i64 (z 6)) := (HM11.out.2 6 (by omega)).1; have ca7 : _ = some (Value.int .i64 (z 7)) := (HM11.out.2 7 (by omega)).1
  have cb0 : _ = some (Value.int .i64 (z 0)) := (HM14.out.2 0 (by omega)).1; have cb1 : _ = some (Value.int .i64 (z 1)) := (HM14.out.2 1 (by omega)).1; have cb2 : _ = some (Value.int .i64 (z 2)) := (HM14.out.2 2 (by omega)).1; have cb3 : _ = some (Value.int .i64 (z 3)) := (HM14.out.2 3 (by omega)).1; have cb4 : _ = some (Value.int .i64 (z 4)) := (HM14.out.2 4 (by omega)).1; have cb5 : _ = some (Value.int .i64 (z 5)) := (HM14.out.2 5 (by omega)).1; have cb6 : _ = some (Value.int .i64 (z 6)) := (HM14.out.2 6 (by omega)).1; have cb7 : _ = some (Value.int .i64 (z 7)) := (HM14.out.2 7 (by omega)).1
  go_upto_region 17 with (first
    | (refine wl_arN _ _ _ rfl rfl (z) rfl rfl ?_)
    | (go_at_call 53; (with_reducible refine Calls.mono (HSE.out _ BV.out) ?_); rintro e yx ⟨rfl, hbx⟩; (try replace p0 := keep hbx p0); (try replace p1 := keep hbx p1); (try replace HM5 := Lib.hid (HM5.out.on hbx)); (try replace HM9 := Lib.hid (HM9.out.on hbx)); (try replace HM11 := Lib.hid (HM11.out.on hbx)); (try replace HM14 := Lib.hid (HM14.out.on hbx)); (try replace TC := Lib.hid (TC.out.bel hbx)); (first | replace BV := Lib.hid (belowT (show Below w.heap.size w _ by have Bq := BV.out; have Bz := Bq.size; (repeat (first | with_reducible exact Below.refl _ _ | with_reducible assumption | with_reducible refine Below.alloc ?_ (by first | (simp; done) | (simp; omega) | omega) _ | with_reducible refine Below.setCell ?_ (by first | (simp; done) | (simp; omega) | omega) _ | with_reducible refine Below.drew ?_ | with_reducible refine below_drewN ?_ _))) hbx) | have BV := Lib.hid (belowT (show Below w.heap.size w _ by (repeat (first | with_reducible exact Below.refl _ _ | with_reducible assumption | with_reducible refine Below.alloc ?_ (by first | (simp; done) | (simp; omega) | omega) _ | with_reducible refine Below.setCell ?_ (by first | (simp; done) | (simp; omega) | omega) _ | with_reducible refine Below.drew ?_ | with_reducible refine below_drewN ?_ _))) hbx)); clear hbx))
  clear ca0 cb0 ca1 cb1 ca2 cb2 ca3 cb3 ca4 cb4 ca5 cb5 ca6 cb6 ca7 cb7
  generalize yx = vx at *
  refine wp_region_gd [mpEq (.int .i64 0), mpEq (.bool false), mpEq (.bool false), mpEq (.agg (arr F)), mpEq (.slice A n c), mpEq (.agg (arr F)), mpEq (.bool false), mpEq (.bool false)] qf0 (by kernel_rfl) (by kernel_rfl) (by kernel_rfl) (
        allOps_cons (fun a' w' hb hs hd => Or.inl ⟨wanted_n rfl, rg_op fun K hK => by
      have e0 := (hs.get 10 (by kernel_rfl)).trans (show _ = .int .i64 0 from rfl)
      have ec : ∀ v, a'.eval (.const v) = v := fun _ => rfl
      clear hs hd
      unfold Oper.wp
      generalize a'.eval = ρ at e0 ec ⊢
      simp [go_sem, e0]
      exact hK _ _ (Below.refl _ _) rfl⟩) <|
        allOps_cons (fun a' w' hb hs hd => Or.inl ⟨wanted_n rfl, rg_op fun K hK => by
      have e0 := (show a'.eval (.tmp 79) = .int .i64 0 from hd.get 0 79 (by kernel_rfl) (by kernel_rfl))
      have ec : ∀ v, a'.eval (.const v) = v := fun _ => rfl
      clear hs hd
      unfold Oper.wp
      generalize a'.eval = ρ at e0 ec ⊢
      simp [go_sem, e0, ec]
      exact hK _ _ (Below.refl _ _) rfl⟩) <|
        allOps_cons (fun a' w' hb hs hd => Or.inl ⟨wanted_n rfl, rg_op fun K hK => by
      have e0 := (show a'.eval (.tmp 80) = .bool false from hd.get 1 80 (by kernel_rfl) (by kernel_rfl))
      have ec : ∀ v, a'.eval (.const v) = v := fun _ => rfl
      clear hs hd
      unfold Oper.wp
      generalize a'.eval = ρ at e0 ec ⊢
      simp [go_sem, e0]
      exact hK _ _ (Below.refl _ _) rfl⟩) <|
        allOps_cons (fun a' w' hb hs hd => Or.inl ⟨wanted_t (j := 2) (d := 81) rfl (by kernel_rfl) (show a'.eval (.tmp 81) = .bool false from hd.get 2 81 (by kernel_rfl) (by kernel_rfl)), rg_op fun K hK => by
      have e0 : a'.eval (.tmp 9) = .pointer (some ⟨b9, 0, none⟩) := (hs.get 9 (by kernel_rfl)).trans (show _ = Value.pointer (some ⟨b9, 0, none⟩) from rfl)
      exact op_ld8 rfl e0 (HM9.out.on hb) (hK _ _ (Below.refl _ _) rfl)⟩) <|
        allOps_cons (fun a' w' hb hs hd => Or.inl ⟨wanted_t (j := 2) (d := 81) rfl (by kernel_rfl) (show a'.eval (.tmp 81) = .bool false from hd.get 2 81 (by kernel_rfl) (by kernel_rfl)), rg_op fun K hK => by
      have e0 := (hs.get 0 (by kernel_rfl)).trans (show _ = .slice A n c from rfl)
      have ec : ∀ v, a'.eval (.const v) = v := fun _ => rfl
      clear hs hd
      unfold Oper.wp
      generalize a'.eval = ρ at e0 ec ⊢
      simp [go_sem, e0]
      exact hK _ _ (Below.refl _ _) rfl⟩) <|
        allOps_cons (fun a' w' hb hs hd => Or.inl ⟨wanted_t (j := 2) (d := 81) rfl (by kernel_rfl) (show a'.eval (.tmp 81) = .bool false from hd.get 2 81 (by kernel_rfl) (by kernel_rfl)), by
      exact rg_fn (φ := (mpEq (.agg (arr F))).p) (vs := #[.slice A n c]) rfl (enters_of Try.func77 (by kernel_rfl) rfl) (by simp [(show a'.eval (.tmp 83) = .slice A n c from hd.get 4 83 (by kernel_rfl) (by kernel_rfl))]) ((HRB.out w' (belowT BV.out hb)).mono (by rintro e w1 ⟨rfl, h1⟩; exact ⟨_, rfl, h1, rfl⟩))⟩) <|
        allOps_cons (fun a' w' hb hs hd => Or.inl ⟨wanted_t (j := 2) (d := 81) rfl (by kernel_rfl) (show a'.eval (.tmp 81) = .bool false from hd.get 2 81 (by kernel_rfl) (by kernel_rfl)), rg_op fun K hK => by
      have e0 : a'.eval (.tmp 82) = .agg (arr F) := (show a'.eval (.tmp 82) = .agg (arr F) from hd.get 3 82 (by kernel_rfl) (by kernel_rfl))
      have e1 : a'.eval (.tmp 84) = .agg (arr F) := (show a'.eval (.tmp 84) = .agg (arr F) from hd.get 5 84 (by kernel_rfl) (by kernel_rfl))
      exact op_arN rfl e0 e1 (hK _ _ (Below.refl _ _) rfl)⟩) <|
        allOps_cons (fun a' w' hb hs hd => Or.inl ⟨wanted_n rfl, rg_op fun K hK => by
      have e0 := (show a'.eval (.tmp 81) = .bool false from hd.get 2 81 (by kernel_rfl) (by kernel_rfl))
      have e1 := (show a'.eval (.tmp 85) = .bool false from hd.get 6 85 (by kernel_rfl) (by kernel_rfl))
      have ec : ∀ v, a'.eval (.const v) = v := fun _ => rfl
      clear hs hd
      unfold Oper.wp
      generalize a'.eval = ρ at e0 e1 ec ⊢
      simp [go_sem, e0, e1, ec]
      exact hK _ _ (Below.refl _ _) rfl⟩) <| allOps_nil) (fun V v5 hv5 hall => ?_)
  have h86 : V 86 = .bool false := hall.get 7 rfl
  clear hall
  simp only [qf0, maskPut, Nat.reduceAdd]
  rw [h86]
  clear h86
  replace BV := Lib.hid (belowT BV.out hv5)
  replace p0 := keep hv5 p0
  replace p1 := keep hv5 p1
  clear hv5 HM5 HM9 HM11 HM14
  go_wp2_with (first
    | (go_at_call 67; (with_reducible refine Calls.mono (HQE.out _) ?_); rintro e yx ⟨rfl, hbx⟩; (try replace p0 := keep hbx p0); (try replace p1 := keep hbx p1); (try replace HM5 := Lib.hid (HM5.out.on hbx)); (try replace HM9 := Lib.hid (HM9.out.on hbx)); (try replace HM11 := Lib.hid (HM11.out.on hbx)); (try replace HM14 := Lib.hid (HM14.out.on hbx)); (try replace TC := Lib.hid (TC.out.bel hbx)); (first | replace BV := Lib.hid (belowT (show Below w.heap.size w _ by have Bq := BV.out; have Bz := Bq.size; (repeat (first | with_reducible exact Below.refl _ _ | with_reducible assumption | with_reducible refine Below.alloc ?_ (by first | (simp; done) | (simp; omega) | omega) _ | with_reducible refine Below.setCell ?_ (by first | (simp; done) | (simp; omega) | omega) _ | with_reducible refine Below.drew ?_ | with_reducible refine below_drewN ?_ _))) hbx) | have BV := Lib.hid (belowT (show Below w.heap.size w _ by (repeat (first | with_reducible exact Below.refl _ _ | with_reducible assumption | with_reducible refine Below.alloc ?_ (by first | (simp; done) | (simp; omega) | omega) _ | with_reducible refine Below.setCell ?_ (by first | (simp; done) | (simp; omega) | omega) _ | with_reducible refine Below.drew ?_ | with_reducible refine below_drewN ?_ _))) hbx)); clear hbx))
  go_ret
  exact ⟨rfl, BV.out⟩
set_option maxRecDepth 100000 in
set_option maxHeartbeats 4000000 in
theorem sb_oA (A : Option Addr) (n c : Nat) (g : Nat → Int × Int) (q : Int) (h : Nat → Int × Int) (S : Int) (S0 : S ≠ 0) (w : World) (hs : shr n = true) (hD : smE n g = 0) (hw : wi q 0 3 = true) (hB : b4E 8000 h = S) (hG : GS w (.slice A n c) n g) :
    Calls Try.prog 12 #[.slice A n c, .int .i64 q, .agg (arr (flt h))] w fun e w' => e = .returned (.bool true) ∧ Below w.heap.size w w' := by
  have hn : n ≤ 404 := by unfold shr at hs; simp at hs; omega
  have hA : GA w A n g := by obtain ⟨A', c', e, h, _⟩ := hG; cases e; exact h
  have hE : boE n g q = 0 := by unfold boE fs2 rgE; rw [hD, hw]; rfl
  have HSH := Lib.hid (fun W => short_any A n c W)
  rw [hs] at HSH
  have HCG := Lib.hid (fun W (hW : Below w.heap.size w W) => copyG_any (.slice A n c) n g W (by omega) (hG.on hW))
  obtain ⟨X, hX⟩ : ∃ X, (bnS (-q) g n).1 = X := ⟨_, rfl⟩
  obtain ⟨Y, hY⟩ : ∃ Y, (bnS (-q) g n).2 = Y := ⟨_, rfl⟩
  have HBO := Lib.hid (fun A1 c1 W (h : GA W A1 n g) => binOfS_all A1 n c1 g q (0) X Y hE (fun _ => ⟨hX.symm, hY.symm⟩) (fun e => absurd rfl e) W (by omega) h)
  obtain ⟨F, hF⟩ : ∃ F, bnF g n = F := ⟨_, rfl⟩
  have HBS := Lib.hid (fun A1 c1 W (h : GA W A1 n g) => binsOfS_all A1 n c1 g (0) F hD (fun _ => hF.symm) (fun e => absurd rfl e) W (by omega) h)
  have HRB := Lib.hid (fun W (hW : Below w.heap.size w W) => binsOfR_arr A n c g hD W (hA.bel hW))
  rw [hF] at HRB
  have hwq := wi_t.1 hw
  have h2000 := (sm_0 hD).2
  have HRO := Lib.hid (fun W (hW : Below w.heap.size w W) => binOfR_any A n c g q W (by omega) (hA.bel hW) (by omega) (by omega) (fun i hi => by have := h2000 i hi; omega))
  rw [hX, hY] at HRO
  clear hwq h2000
  have HSE := Lib.hid (fun W (hW : Below w.heap.size w W) => samplesErr_any A n c g W (by omega) (hA.bel hW))
  rw [hD] at HSE
  have HQE := Lib.hid (fun W => quarterErr_any q W)
  rw [show rgE q 0 3 = 0 by unfold rgE; rw [hw]; rfl] at HQE
  have HBE := Lib.hid (fun W => binsErr_arr h W)
  rw [hB] at HBE
  have HRS := Lib.hid (fun W => restoredS_bad h S hB S0 W)
  have s1 : (S == 0) = false := by simpa using S0
  have s2 : (S != 0) = true := by simpa using S0
  clear hA hG hE hs hD hB S0 hF hX hY
  go_enter Try.func12, Try.ntmps12
  go_upto_region 6 with (first
    | (go_at_call 17; (with_reducible refine Calls.mono (awake_any _) ?_); rintro e yx ⟨rfl, hbx⟩; (try replace p0 := keep hbx p0); (try replace p1 := keep hbx p1); (try replace HM5 := Lib.hid (HM5.out.on hbx)); (try replace HM9 := Lib.hid (HM9.out.on hbx)); (try replace HM11 := Lib.hid (HM11.out.on hbx)); (try replace HM14 := Lib.hid (HM14.out.on hbx)); (try replace TC := Lib.hid (TC.out.bel hbx)); (first | replace BV := Lib.hid (belowT (show Below w.heap.size w _ by have Bq := BV.out; have Bz := Bq.size; (repeat (first | with_reducible exact Below.refl _ _ | with_reducible assumption | with_reducible refine Below.alloc ?_ (by first | (simp; done) | (simp; omega) | omega) _ | with_reducible refine Below.setCell ?_ (by first | (simp; done) | (simp; omega) | omega) _ | with_reducible refine Below.drew ?_ | with_reducible refine below_drewN ?_ _))) hbx) | have BV := Lib.hid (belowT (show Below w.heap.size w _ by (repeat (first | with_reducible exact Below.refl _ _ | with_reducible assumption | with_reducible refine Below.alloc ?_ (by first | (simp; done) | (simp; omega) | omega) _ | with_reducible refine Below.setCell ?_ (by first | (simp; done) | (simp; omega) | omega) _ | with_reducible refine Below.drew ?_ | with_reducible refine below_drewN ?_ _))) hbx)); have HM5 : Hid (IM yx w.heap.size 8 (flt h)) := Lib.hid (IM.on (arr_im w (flt h) 102) hbx); clear hbx)
    | (go_at_call 47; (with_reducible refine Calls.mono (HSH.out _) ?_); rintro e yx ⟨rfl, hbx⟩; (try replace p0 := keep hbx p0); (try replace p1 := keep hbx p1); (try replace HM5 := Lib.hid (HM5.out.on hbx)); (try replace HM9 := Lib.hid (HM9.out.on hbx)); (try replace HM11 := Lib.hid (HM11.out.on hbx)); (try replace HM14 := Lib.hid (HM14.out.on hbx)); (try replace TC := Lib.hid (TC.out.bel hbx)); (first | replace BV := Lib.hid (belowT (show Below w.heap.size w _ by have Bq := BV.out; have Bz := Bq.size; (repeat (first | with_reducible exact Below.refl _ _ | with_reducible assumption | with_reducible refine Below.alloc ?_ (by first | (simp; done) | (simp; omega) | omega) _ | with_reducible refine Below.setCell ?_ (by first | (simp; done) | (simp; omega) | omega) _ | with_reducible refine Below.drew ?_ | with_reducible refine below_drewN ?_ _))) hbx) | have BV := Lib.hid (belowT (show Below w.heap.size w _ by (repeat (first | with_reducible exact Below.refl _ _ | with_reducible assumption | with_reducible refine Below.alloc ?_ (by first | (simp; done) | (simp; omega) | omega) _ | with_reducible refine Below.setCell ?_ (by first | (simp; done) | (simp; omega) | omega) _ | with_reducible refine Below.drew ?_ | with_reducible refine below_drewN ?_ _))) hbx)); clear hbx)
    | (go_at_call 49; (with_reducible refine Calls.mono (HCG.out _ BV.out) ?_); rintro e yx ⟨vc, rfl, hbx, Ac, cc, rfl, hGc, _⟩; (try replace p0 := keep hbx p0); (try replace p1 := keep hbx p1); (try replace HM5 := Lib.hid (HM5.out.on hbx)); (try replace HM9 := Lib.hid (HM9.out.on hbx)); (try replace HM11 := Lib.hid (HM11.out.on hbx)); (try replace HM14 := Lib.hid (HM14.out.on hbx)); (try replace TC := Lib.hid (TC.out.bel hbx)); (first | replace BV := Lib.hid (belowT (show Below w.heap.size w _ by have Bq := BV.out; have Bz := Bq.size; (repeat (first | with_reducible exact Below.refl _ _ | with_reducible assumption | with_reducible refine Below.alloc ?_ (by first | (simp; done) | (simp; omega) | omega) _ | with_reducible refine Below.setCell ?_ (by first | (simp; done) | (simp; omega) | omega) _ | with_reducible refine Below.drew ?_ | with_reducible refine below_drewN ?_ _))) hbx) | have BV := Lib.hid (belowT (show Below w.heap.size w _ by (repeat (first | with_reducible exact Below.refl _ _ | with_reducible assumption | with_reducible refine Below.alloc ?_ (by first | (simp; done) | (simp; omega) | omega) _ | with_reducible refine Below.setCell ?_ (by first | (simp; done) | (simp; omega) | omega) _ | with_reducible refine Below.drew ?_ | with_reducible refine below_drewN ?_ _))) hbx)); have TC := Lib.hid hGc; clear hGc; clear hbx)
    | (go_at_call 72; (with_reducible refine Calls.mono (HBO.out _ _ _ TC.out) ?_); rintro e yx ⟨rfl, hbx⟩; (try replace p0 := keep hbx p0); (try replace p1 := keep hbx p1); (try replace HM5 := Lib.hid (HM5.out.on hbx)); (try replace HM9 := Lib.hid (HM9.out.on hbx)); (try replace HM11 := Lib.hid (HM11.out.on hbx)); (try replace HM14 := Lib.hid (HM14.out.on hbx)); (try replace TC := Lib.hid (TC.out.bel hbx)); (first | replace BV := Lib.hid (belowT (show Below w.heap.size w _ by have Bq := BV.out; have Bz := Bq.size; (repeat (first | with_reducible exact Below.refl _ _ | with_reducible assumption | with_reducible refine Below.alloc ?_ (by first | (simp; done) | (simp; omega) | omega) _ | with_reducible refine Below.setCell ?_ (by first | (simp; done) | (simp; omega) | omega) _ | with_reducible refine Below.drew ?_ | with_reducible refine below_drewN ?_ _))) hbx) | have BV := Lib.hid (belowT (show Below w.heap.size w _ by (repeat (first | with_reducible exact Below.refl _ _ | with_reducible assumption | with_reducible refine Below.alloc ?_ (by first | (simp; done) | (simp; omega) | omega) _ | with_reducible refine Below.setCell ?_ (by first | (simp; done) | (simp; omega) | omega) _ | with_reducible refine Below.drew ?_ | with_reducible refine below_drewN ?_ _))) hbx)); clear hbx))
  obtain ⟨b7, hb7⟩ : ∃ b7, yx.heap.size = b7 := ⟨_, rfl⟩
  have hvv : Below yx.heap.size yx (yx.alloc (.cells #[.int .i64 X, .int .i64 Y] 23)) := (Below.refl _ _).alloc (Nat.le_refl _) _
  have p0 : (yx.alloc (.cells #[.int .i64 X, .int .i64 Y] 23)).cell? ⟨b7, 0, none⟩ = some (.int .i64 X) := by rw [← hb7]; simp [go_sem]
  have p1 : (yx.alloc (.cells #[.int .i64 X, .int .i64 Y] 23)).cell? ⟨b7, 1, none⟩ = some (.int .i64 Y) := by rw [← hb7]; simp [go_sem]
  replace HM5 := Lib.hid (HM5.out.on hvv)
  replace BV := Lib.hid (belowT BV.out hvv)
  clear hvv
  generalize (yx.alloc (.cells #[.int .i64 X, .int .i64 Y] 23)) = v1 at *
  rw [hb7]
  clear hb7
  go_upto_region 7 with (first
    | (go_at_call 49; (with_reducible refine Calls.mono (HCG.out _ BV.out) ?_); rintro e yx ⟨vc, rfl, hbx, Ac, cc, rfl, hGc, _⟩; (try replace p0 := keep hbx p0); (try replace p1 := keep hbx p1); (try replace HM5 := Lib.hid (HM5.out.on hbx)); (try replace HM9 := Lib.hid (HM9.out.on hbx)); (try replace HM11 := Lib.hid (HM11.out.on hbx)); (try replace HM14 := Lib.hid (HM14.out.on hbx)); (try replace TC := Lib.hid (TC.out.bel hbx)); (first | replace BV := Lib.hid (belowT (show Below w.heap.size w _ by have Bq := BV.out; have Bz := Bq.size; (repeat (first | with_reducible exact Below.refl _ _ | with_reducible assumption | with_reducible refine Below.alloc ?_ (by first | (simp; done) | (simp; omega) | omega) _ | with_reducible refine Below.setCell ?_ (by first | (simp; done) | (simp; omega) | omega) _ | with_reducible refine Below.drew ?_ | with_reducible refine below_drewN ?_ _))) hbx) | have BV := Lib.hid (belowT (show Below w.heap.size w _ by (repeat (first | with_reducible exact Below.refl _ _ | with_reducible assumption | with_reducible refine Below.alloc ?_ (by first | (simp; done) | (simp; omega) | omega) _ | with_reducible refine Below.setCell ?_ (by first | (simp; done) | (simp; omega) | omega) _ | with_reducible refine Below.drew ?_ | with_reducible refine below_drewN ?_ _))) hbx)); have TC := Lib.hid hGc; clear hGc; clear hbx)
    | (go_at_call 73; (with_reducible refine Calls.mono (HBS.out _ _ _ TC.out) ?_); rintro e yx ⟨rfl, hbx⟩; (try replace p0 := keep hbx p0); (try replace p1 := keep hbx p1); (try replace HM5 := Lib.hid (HM5.out.on hbx)); (try replace HM9 := Lib.hid (HM9.out.on hbx)); (try replace HM11 := Lib.hid (HM11.out.on hbx)); (try replace HM14 := Lib.hid (HM14.out.on hbx)); (try replace TC := Lib.hid (TC.out.bel hbx)); (first | replace BV := Lib.hid (belowT (show Below w.heap.size w _ by have Bq := BV.out; have Bz := Bq.size; (repeat (first | with_reducible exact Below.refl _ _ | with_reducible assumption | with_reducible refine Below.alloc ?_ (by first | (simp; done) | (simp; omega) | omega) _ | with_reducible refine Below.setCell ?_ (by first | (simp; done) | (simp; omega) | omega) _ | with_reducible refine Below.drew ?_ | with_reducible refine below_drewN ?_ _))) hbx) | have BV := Lib.hid (belowT (show Below w.heap.size w _ by (repeat (first | with_reducible exact Below.refl _ _ | with_reducible assumption | with_reducible refine Below.alloc ?_ (by first | (simp; done) | (simp; omega) | omega) _ | with_reducible refine Below.setCell ?_ (by first | (simp; done) | (simp; omega) | omega) _ | with_reducible refine Below.drew ?_ | with_reducible refine below_drewN ?_ _))) hbx)); clear hbx)
    | (refine wl_st8n rfl _ _ rfl _ rfl rfl (F) rfl ?_))
  obtain ⟨b9, hb9⟩ : ∃ b9, yx.heap.size = b9 := ⟨_, rfl⟩
  have hvv : Below yx.heap.size yx (yx.alloc (.cells (arr F) 102)) := (Below.refl _ _).alloc (Nat.le_refl _) _
  have HM9 : Hid (IM (yx.alloc (.cells (arr F) 102)) b9 8 (F)) := Lib.hid (hb9 ▸ arr_im yx (F) 102)
  replace HM5 := Lib.hid (HM5.out.on hvv)
  replace p0 := keep hvv p0
  replace p1 := keep hvv p1
  replace BV := Lib.hid (belowT BV.out hvv)
  clear hvv
  generalize (yx.alloc (.cells (arr F) 102)) = v2 at *
  rw [hb9]
  clear hb9
  go_upto_region 8 with (first
    | (refine wl_ld8 rfl _ rfl w.heap.size rfl (flt h) HM5.out ?_)
    | (go_at_call 74; (with_reducible refine Calls.mono (HRS.out _) ?_); rintro e yx ⟨rfl, hbx⟩; (try replace p0 := keep hbx p0); (try replace p1 := keep hbx p1); (try replace HM5 := Lib.hid (HM5.out.on hbx)); (try replace HM9 := Lib.hid (HM9.out.on hbx)); (try replace HM11 := Lib.hid (HM11.out.on hbx)); (try replace HM14 := Lib.hid (HM14.out.on hbx)); (try replace TC := Lib.hid (TC.out.bel hbx)); (first | replace BV := Lib.hid (belowT (show Below w.heap.size w _ by have Bq := BV.out; have Bz := Bq.size; (repeat (first | with_reducible exact Below.refl _ _ | with_reducible assumption | with_reducible refine Below.alloc ?_ (by first | (simp; done) | (simp; omega) | omega) _ | with_reducible refine Below.setCell ?_ (by first | (simp; done) | (simp; omega) | omega) _ | with_reducible refine Below.drew ?_ | with_reducible refine below_drewN ?_ _))) hbx) | have BV := Lib.hid (belowT (show Below w.heap.size w _ by (repeat (first | with_reducible exact Below.refl _ _ | with_reducible assumption | with_reducible refine Below.alloc ?_ (by first | (simp; done) | (simp; omega) | omega) _ | with_reducible refine Below.setCell ?_ (by first | (simp; done) | (simp; omega) | omega) _ | with_reducible refine Below.drew ?_ | with_reducible refine below_drewN ?_ _))) hbx)); clear hbx)
    | (refine wl_st8n rfl _ _ rfl _ rfl rfl (fun _ => 0) rfl ?_))
  obtain ⟨b11, hb11⟩ : ∃ b11, yx.heap.size = b11 := ⟨_, rfl⟩
  have hvv : Below yx.heap.size yx (yx.alloc (.cells (arr (fun _ => 0)) 102)) := (Below.refl _ _).alloc (Nat.le_refl _) _
  have HM11 : Hid (IM (yx.alloc (.cells (arr (fun _ => 0)) 102)) b11 8 (fun _ => 0)) := Lib.hid (hb11 ▸ arr_im yx (fun _ => 0) 102)
  replace HM5 := Lib.hid (HM5.out.on hvv)
  replace HM9 := Lib.hid (HM9.out.on hvv)
  replace p0 := keep hvv p0
  replace p1 := keep hvv p1
  replace BV := Lib.hid (belowT BV.out hvv)
  clear hvv
  generalize (yx.alloc (.cells (arr (fun _ => 0)) 102)) = v3 at *
  rw [hb11]
  clear hb11
  go_upto_region 10 with (first
    | (refine wl_ld8 rfl _ rfl w.heap.size rfl (flt h) HM5.out ?_)
    | (go_at_call 75; (with_reducible refine Calls.mono (HBE.out _) ?_); rintro e yx ⟨rfl, hbx⟩; (try replace p0 := keep hbx p0); (try replace p1 := keep hbx p1); (try replace HM5 := Lib.hid (HM5.out.on hbx)); (try replace HM9 := Lib.hid (HM9.out.on hbx)); (try replace HM11 := Lib.hid (HM11.out.on hbx)); (try replace HM14 := Lib.hid (HM14.out.on hbx)); (try replace TC := Lib.hid (TC.out.bel hbx)); (first | replace BV := Lib.hid (belowT (show Below w.heap.size w _ by have Bq := BV.out; have Bz := Bq.size; (repeat (first | with_reducible exact Below.refl _ _ | with_reducible assumption | with_reducible refine Below.alloc ?_ (by first | (simp; done) | (simp; omega) | omega) _ | with_reducible refine Below.setCell ?_ (by first | (simp; done) | (simp; omega) | omega) _ | with_reducible refine Below.drew ?_ | with_reducible refine below_drewN ?_ _))) hbx) | have BV := Lib.hid (belowT (show Below w.heap.size w _ by (repeat (first | with_reducible exact Below.refl _ _ | with_reducible assumption | with_reducible refine Below.alloc ?_ (by first | (simp; done) | (simp; omega) | omega) _ | with_reducible refine Below.setCell ?_ (by first | (simp; done) | (simp; omega) | omega) _ | with_reducible refine Below.drew ?_ | with_reducible refine below_drewN ?_ _))) hbx)); clear hbx))
  have hlt : w.heap.size < yx.heap.size ∧ b7 < yx.heap.size ∧ b9 < yx.heap.size ∧ b11 < yx.heap.size := ⟨HM5.out.1, lt_of p0, HM9.out.1, HM11.out.1⟩
  obtain ⟨b14, hb14⟩ : ∃ b14, yx.heap.size = b14 := ⟨_, rfl⟩
  have hvv : Below yx.heap.size yx (yx.alloc (.cells #[.int .i64 0, .int .i64 0, .int .i64 0, .int .i64 0, .int .i64 0, .int .i64 0, .int .i64 0, .int .i64 0] 102)) := (Below.refl _ _).alloc (Nat.le_refl _) _
  have HM14 : Hid (IM (yx.alloc (.cells #[.int .i64 0, .int .i64 0, .int .i64 0, .int .i64 0, .int .i64 0, .int .i64 0, .int .i64 0, .int .i64 0] 102)) b14 8 (fun _ => 0)) := Lib.hid (hb14 ▸ arr_im yx (fun _ => 0) 102)
  replace HM5 := Lib.hid (HM5.out.on hvv)
  replace HM9 := Lib.hid (HM9.out.on hvv)
  replace HM11 := Lib.hid (HM11.out.on hvv)
  replace p0 := keep hvv p0
  replace p1 := keep hvv p1
  replace BV := Lib.hid (belowT BV.out hvv)
  clear hvv
  generalize (yx.alloc (.cells #[.int .i64 0, .int .i64 0, .int .i64 0, .int .i64 0, .int .i64 0, .int .i64 0, .int .i64 0, .int .i64 0] 102)) = v4 at *
  rw [hb14] at hlt ⊢
  clear hb14
  go_upto_region 12 with fail
  have ca0 : _ = some (Value.int .i64 0) := (HM11.out.2 0 (by omega)).1; have ca1 : _ = some (Value.int .i64 0) := (HM11.out.2 1 (by omega)).1; have ca2 : _ = some (Value.int .i64 0) := (HM11.out.2 2 (by omega)).1; have ca3 : _ = some (Value.int .i64 0) := (HM11.out.2 3 (by omega)).1; have ca4 : _ = some (Value.int .i64 0) := (HM11.out.2 4 (by omega)).1; have ca5 : _ = some (Value.int .i64 0) := (HM11.out.2 5 (by omega)).1; have ca6 : _ = some (Value.int .i64 0) := (HM11.out.2 6 (by omega)).1; have ca7 : _ = some (Value.int .i64 0) := (HM11.out.2 7 (by omega)).1
  have cb0 : _ = some (Value.int .i64 0) := (HM14.out.2 0 (by omega)).1; have cb1 : _ = some (Value.int .i64 0) := (HM14.out.2 1 (by omega)).1; have cb2 : _ = some (Value.int .i64 0) := (HM14.out.2 2 (by omega)).1; have cb3 : _ = some (Value.int .i64 0) := (HM14.out.2 3 (by omega)).1; have cb4 : _ = some (Value.int .i64 0) := (HM14.out.2 4 (by omega)).1; have cb5 : _ = some (Value.int .i64 0) := (HM14.out.2 5 (by omega)).1; have cb6 : _ = some (Value.int .i64 0) := (HM14.out.2 6 (by omega)).1; have cb7 : _ = some (Value.int .i64 0) := (HM14.out.2 7 (by omega)).1
  go_upto_region 17 with (first
    | (refine wl_arN _ _ _ rfl rfl (fun _ => 0) rfl rfl ?_)
    | (go_at_call 53; (with_reducible refine Calls.mono (HSE.out _ BV.out) ?_); rintro e yx ⟨rfl, hbx⟩; (try replace p0 := keep hbx p0); (try replace p1 := keep hbx p1); (try replace HM5 := Lib.hid (HM5.out.on hbx)); (try replace HM9 := Lib.hid (HM9.out.on hbx)); (try replace HM11 := Lib.hid (HM11.out.on hbx)); (try replace HM14 := Lib.hid (HM14.out.on hbx)); (try replace TC := Lib.hid (TC.out.bel hbx)); (first | replace BV := Lib.hid (belowT (show Below w.heap.size w _ by have Bq := BV.out; have Bz := Bq.size; (repeat (first | with_reducible exact Below.refl _ _ | with_reducible assumption | with_reducible refine Below.alloc ?_ (by first | (simp; done) | (simp; omega) | omega) _ | with_reducible refine Below.setCell ?_ (by first | (simp; done) | (simp; omega) | omega) _ | with_reducible refine Below.drew ?_ | with_reducible refine below_drewN ?_ _))) hbx) | have BV := Lib.hid (belowT (show Below w.heap.size w _ by (repeat (first | with_reducible exact Below.refl _ _ | with_reducible assumption | with_reducible refine Below.alloc ?_ (by first | (simp; done) | (simp; omega) | omega) _ | with_reducible refine Below.setCell ?_ (by first | (simp; done) | (simp; omega) | omega) _ | with_reducible refine Below.drew ?_ | with_reducible refine below_drewN ?_ _))) hbx)); clear hbx))
  clear ca0 cb0 ca1 cb1 ca2 cb2 ca3 cb3 ca4 cb4 ca5 cb5 ca6 cb6 ca7 cb7
  generalize yx = vx at *
  refine wp_region_gd [mpEq (.int .i64 0), mpEq (.bool false), mpEq (.bool false), mpEq (.agg (arr F)), mpEq (.slice A n c), mpEq (.agg (arr F)), mpEq (.bool false), mpEq (.bool false)] qf0 (by kernel_rfl) (by kernel_rfl) (by kernel_rfl) (
        allOps_cons (fun a' w' hb hs hd => Or.inl ⟨wanted_n rfl, rg_op fun K hK => by
      have e0 := (hs.get 10 (by kernel_rfl)).trans (show _ = .int .i64 0 from rfl)
      have ec : ∀ v, a'.eval (.const v) = v := fun _ => rfl
      clear hs hd
      unfold Oper.wp
      generalize a'.eval = ρ at e0 ec ⊢
      simp [go_sem, e0]
      exact hK _ _ (Below.refl _ _) rfl⟩) <|
        allOps_cons (fun a' w' hb hs hd => Or.inl ⟨wanted_n rfl, rg_op fun K hK => by
      have e0 := (show a'.eval (.tmp 79) = .int .i64 0 from hd.get 0 79 (by kernel_rfl) (by kernel_rfl))
      have ec : ∀ v, a'.eval (.const v) = v := fun _ => rfl
      clear hs hd
      unfold Oper.wp
      generalize a'.eval = ρ at e0 ec ⊢
      simp [go_sem, e0, ec]
      exact hK _ _ (Below.refl _ _) rfl⟩) <|
        allOps_cons (fun a' w' hb hs hd => Or.inl ⟨wanted_n rfl, rg_op fun K hK => by
      have e0 := (show a'.eval (.tmp 80) = .bool false from hd.get 1 80 (by kernel_rfl) (by kernel_rfl))
      have ec : ∀ v, a'.eval (.const v) = v := fun _ => rfl
      clear hs hd
      unfold Oper.wp
      generalize a'.eval = ρ at e0 ec ⊢
      simp [go_sem, e0]
      exact hK _ _ (Below.refl _ _) rfl⟩) <|
        allOps_cons (fun a' w' hb hs hd => Or.inl ⟨wanted_t (j := 2) (d := 81) rfl (by kernel_rfl) (show a'.eval (.tmp 81) = .bool false from hd.get 2 81 (by kernel_rfl) (by kernel_rfl)), rg_op fun K hK => by
      have e0 : a'.eval (.tmp 9) = .pointer (some ⟨b9, 0, none⟩) := (hs.get 9 (by kernel_rfl)).trans (show _ = Value.pointer (some ⟨b9, 0, none⟩) from rfl)
      exact op_ld8 rfl e0 (HM9.out.on hb) (hK _ _ (Below.refl _ _) rfl)⟩) <|
        allOps_cons (fun a' w' hb hs hd => Or.inl ⟨wanted_t (j := 2) (d := 81) rfl (by kernel_rfl) (show a'.eval (.tmp 81) = .bool false from hd.get 2 81 (by kernel_rfl) (by kernel_rfl)), rg_op fun K hK => by
      have e0 := (hs.get 0 (by kernel_rfl)).trans (show _ = .slice A n c from rfl)
      have ec : ∀ v, a'.eval (.const v) = v := fun _ => rfl
      clear hs hd
      unfold Oper.wp
      generalize a'.eval = ρ at e0 ec ⊢
      simp [go_sem, e0]
      exact hK _ _ (Below.refl _ _) rfl⟩) <|
        allOps_cons (fun a' w' hb hs hd => Or.inl ⟨wanted_t (j := 2) (d := 81) rfl (by kernel_rfl) (show a'.eval (.tmp 81) = .bool false from hd.get 2 81 (by kernel_rfl) (by kernel_rfl)), by
      exact rg_fn (φ := (mpEq (.agg (arr F))).p) (vs := #[.slice A n c]) rfl (enters_of Try.func77 (by kernel_rfl) rfl) (by simp [(show a'.eval (.tmp 83) = .slice A n c from hd.get 4 83 (by kernel_rfl) (by kernel_rfl))]) ((HRB.out w' (belowT BV.out hb)).mono (by rintro e w1 ⟨rfl, h1⟩; exact ⟨_, rfl, h1, rfl⟩))⟩) <|
        allOps_cons (fun a' w' hb hs hd => Or.inl ⟨wanted_t (j := 2) (d := 81) rfl (by kernel_rfl) (show a'.eval (.tmp 81) = .bool false from hd.get 2 81 (by kernel_rfl) (by kernel_rfl)), rg_op fun K hK => by
      have e0 : a'.eval (.tmp 82) = .agg (arr F) := (show a'.eval (.tmp 82) = .agg (arr F) from hd.get 3 82 (by kernel_rfl) (by kernel_rfl))
      have e1 : a'.eval (.tmp 84) = .agg (arr F) := (show a'.eval (.tmp 84) = .agg (arr F) from hd.get 5 84 (by kernel_rfl) (by kernel_rfl))
      exact op_arN rfl e0 e1 (hK _ _ (Below.refl _ _) rfl)⟩) <|
        allOps_cons (fun a' w' hb hs hd => Or.inl ⟨wanted_n rfl, rg_op fun K hK => by
      have e0 := (show a'.eval (.tmp 81) = .bool false from hd.get 2 81 (by kernel_rfl) (by kernel_rfl))
      have e1 := (show a'.eval (.tmp 85) = .bool false from hd.get 6 85 (by kernel_rfl) (by kernel_rfl))
      have ec : ∀ v, a'.eval (.const v) = v := fun _ => rfl
      clear hs hd
      unfold Oper.wp
      generalize a'.eval = ρ at e0 e1 ec ⊢
      simp [go_sem, e0, e1, ec]
      exact hK _ _ (Below.refl _ _) rfl⟩) <| allOps_nil) (fun V v5 hv5 hall => ?_)
  have h86 : V 86 = .bool false := hall.get 7 rfl
  clear hall
  simp only [qf0, maskPut, Nat.reduceAdd]
  rw [h86]
  clear h86
  replace BV := Lib.hid (belowT BV.out hv5)
  replace p0 := keep hv5 p0
  replace p1 := keep hv5 p1
  clear hv5 HM5 HM9 HM11 HM14
  go_upto_region 22 with (first
    | (go_at_call 67; (with_reducible refine Calls.mono (HQE.out _) ?_); rintro e yx ⟨rfl, hbx⟩; (try replace p0 := keep hbx p0); (try replace p1 := keep hbx p1); (try replace HM5 := Lib.hid (HM5.out.on hbx)); (try replace HM9 := Lib.hid (HM9.out.on hbx)); (try replace HM11 := Lib.hid (HM11.out.on hbx)); (try replace HM14 := Lib.hid (HM14.out.on hbx)); (try replace TC := Lib.hid (TC.out.bel hbx)); (first | replace BV := Lib.hid (belowT (show Below w.heap.size w _ by have Bq := BV.out; have Bz := Bq.size; (repeat (first | with_reducible exact Below.refl _ _ | with_reducible assumption | with_reducible refine Below.alloc ?_ (by first | (simp; done) | (simp; omega) | omega) _ | with_reducible refine Below.setCell ?_ (by first | (simp; done) | (simp; omega) | omega) _ | with_reducible refine Below.drew ?_ | with_reducible refine below_drewN ?_ _))) hbx) | have BV := Lib.hid (belowT (show Below w.heap.size w _ by (repeat (first | with_reducible exact Below.refl _ _ | with_reducible assumption | with_reducible refine Below.alloc ?_ (by first | (simp; done) | (simp; omega) | omega) _ | with_reducible refine Below.setCell ?_ (by first | (simp; done) | (simp; omega) | omega) _ | with_reducible refine Below.drew ?_ | with_reducible refine below_drewN ?_ _))) hbx)); clear hbx))
  generalize yx = vy at *
  refine wp_region_gd [mpEq (.int .i64 0), mpEq (.bool true), mpEq (.bool true), mpEq (.agg #[.int .i64 X, .int .i64 Y]), mpEq (.slice A n c), mpEq (.int .i64 q), mpEq (.agg #[.int .i64 X, .int .i64 Y]), mpEq (.bool true), mpEq (.bool true), mpEq (.bool true)] qf1 (by kernel_rfl) (by kernel_rfl) (by kernel_rfl) (
        allOps_cons (fun a' w' hb hs hd => Or.inl ⟨wanted_n rfl, rg_op fun K hK => by
      have e0 := (hs.get 8 (by kernel_rfl)).trans (show _ = .int .i64 0 from rfl)
      have ec : ∀ v, a'.eval (.const v) = v := fun _ => rfl
      clear hs hd
      unfold Oper.wp
      generalize a'.eval = ρ at e0 ec ⊢
      simp [go_sem, e0]
      exact hK _ _ (Below.refl _ _) rfl⟩) <|
        allOps_cons (fun a' w' hb hs hd => Or.inl ⟨wanted_n rfl, rg_op fun K hK => by
      have e0 := (show a'.eval (.tmp 99) = .int .i64 0 from hd.get 0 99 (by kernel_rfl) (by kernel_rfl))
      have ec : ∀ v, a'.eval (.const v) = v := fun _ => rfl
      clear hs hd
      unfold Oper.wp
      generalize a'.eval = ρ at e0 ec ⊢
      simp [go_sem, e0, ec]
      exact hK _ _ (Below.refl _ _) rfl⟩) <|
        allOps_cons (fun a' w' hb hs hd => Or.inl ⟨wanted_n rfl, rg_op fun K hK => by
      have e0 := (show a'.eval (.tmp 100) = .bool true from hd.get 1 100 (by kernel_rfl) (by kernel_rfl))
      have ec : ∀ v, a'.eval (.const v) = v := fun _ => rfl
      clear hs hd
      unfold Oper.wp
      generalize a'.eval = ρ at e0 ec ⊢
      simp [go_sem, e0]
      exact hK _ _ (Below.refl _ _) rfl⟩) <|
        allOps_cons (fun a' w' hb hs hd => Or.inl ⟨wanted_t (j := 2) (d := 101) rfl (by kernel_rfl) (show a'.eval (.tmp 101) = .bool true from hd.get 2 101 (by kernel_rfl) (by kernel_rfl)), rg_op fun K hK => by
      have e0 := (hs.get 7 (by kernel_rfl)).trans (show _ = .pointer (some ⟨b7, 0, none⟩) from rfl)
      have ec : ∀ v, a'.eval (.const v) = v := fun _ => rfl
      have c0 := keep hb p0
      have c1 := keep hb p1
      clear hs hd
      unfold Oper.wp
      generalize a'.eval = ρ at e0 ec ⊢
      simp [go_sem, e0, c0, c1]
      exact hK _ _ (Below.refl _ _) rfl⟩) <|
        allOps_cons (fun a' w' hb hs hd => Or.inl ⟨wanted_t (j := 2) (d := 101) rfl (by kernel_rfl) (show a'.eval (.tmp 101) = .bool true from hd.get 2 101 (by kernel_rfl) (by kernel_rfl)), rg_op fun K hK => by
      have e0 := (hs.get 0 (by kernel_rfl)).trans (show _ = .slice A n c from rfl)
      have ec : ∀ v, a'.eval (.const v) = v := fun _ => rfl
      clear hs hd
      unfold Oper.wp
      generalize a'.eval = ρ at e0 ec ⊢
      simp [go_sem, e0]
      exact hK _ _ (Below.refl _ _) rfl⟩) <|
        allOps_cons (fun a' w' hb hs hd => Or.inl ⟨wanted_t (j := 2) (d := 101) rfl (by kernel_rfl) (show a'.eval (.tmp 101) = .bool true from hd.get 2 101 (by kernel_rfl) (by kernel_rfl)), rg_op fun K hK => by
      have e0 := (hs.get 1 (by kernel_rfl)).trans (show _ = .int .i64 q from rfl)
      have ec : ∀ v, a'.eval (.const v) = v := fun _ => rfl
      clear hs hd
      unfold Oper.wp
      generalize a'.eval = ρ at e0 ec ⊢
      simp [go_sem, e0]
      exact hK _ _ (Below.refl _ _) rfl⟩) <|
        allOps_cons (fun a' w' hb hs hd => Or.inl ⟨wanted_t (j := 2) (d := 101) rfl (by kernel_rfl) (show a'.eval (.tmp 101) = .bool true from hd.get 2 101 (by kernel_rfl) (by kernel_rfl)), by
      exact rg_fn (φ := (mpEq (.agg #[.int .i64 X, .int .i64 Y])).p) (vs := #[.slice A n c, .int .i64 q]) rfl (enters_of Try.func78 (by kernel_rfl) rfl) (by simp [(show a'.eval (.tmp 103) = .slice A n c from hd.get 4 103 (by kernel_rfl) (by kernel_rfl)), (show a'.eval (.tmp 104) = .int .i64 q from hd.get 5 104 (by kernel_rfl) (by kernel_rfl))]) ((HRO.out w' (belowT BV.out hb)).mono (by rintro e w1 ⟨rfl, h1⟩; exact ⟨_, rfl, h1, rfl⟩))⟩) <|
        allOps_cons (fun a' w' hb hs hd => Or.inl ⟨wanted_t (j := 2) (d := 101) rfl (by kernel_rfl) (show a'.eval (.tmp 101) = .bool true from hd.get 2 101 (by kernel_rfl) (by kernel_rfl)), rg_op fun K hK => by
      have e0 := (show a'.eval (.tmp 102) = .agg #[.int .i64 X, .int .i64 Y] from hd.get 3 102 (by kernel_rfl) (by kernel_rfl))
      have e1 := (show a'.eval (.tmp 105) = .agg #[.int .i64 X, .int .i64 Y] from hd.get 6 105 (by kernel_rfl) (by kernel_rfl))
      have ec : ∀ v, a'.eval (.const v) = v := fun _ => rfl
      clear hs hd
      unfold Oper.wp
      generalize a'.eval = ρ at e0 e1 ec ⊢
      simp [go_sem, e0, e1]
      exact hK _ _ (Below.refl _ _) rfl⟩) <|
        allOps_cons (fun a' w' hb hs hd => Or.inl ⟨wanted_n rfl, rg_op fun K hK => by
      have e0 := (show a'.eval (.tmp 101) = .bool true from hd.get 2 101 (by kernel_rfl) (by kernel_rfl))
      have e1 := (show a'.eval (.tmp 106) = .bool true from hd.get 7 106 (by kernel_rfl) (by kernel_rfl))
      have ec : ∀ v, a'.eval (.const v) = v := fun _ => rfl
      clear hs hd
      unfold Oper.wp
      generalize a'.eval = ρ at e0 e1 ec ⊢
      simp [go_sem, e0, e1, ec]
      exact hK _ _ (Below.refl _ _) rfl⟩) <|
        allOps_cons (fun a' w' hb hs hd => Or.inl ⟨wanted_n rfl, rg_op fun K hK => by
      have e0 := (show a'.eval (.tmp 107) = .bool true from hd.get 8 107 (by kernel_rfl) (by kernel_rfl))
      have ec : ∀ v, a'.eval (.const v) = v := fun _ => rfl
      clear hs hd
      unfold Oper.wp
      generalize a'.eval = ρ at e0 ec ⊢
      simp [go_sem, e0]
      exact hK _ _ (Below.refl _ _) rfl⟩) <| allOps_nil) (fun V v6 hv6 hall => ?_)
  have h6 : V 6 = .bool true := hall.get 9 rfl
  clear hall
  simp only [qf1, maskPut, Nat.reduceAdd]
  rw [h6]
  clear h6
  go_wp2
  go_ret
  exact ⟨rfl, belowT BV.out hv6⟩
set_option maxRecDepth 100000 in
set_option maxHeartbeats 4000000 in
theorem sb_oB (A : Option Addr) (n c : Nat) (g : Nat → Int × Int) (q : Int) (h : Nat → Int × Int) (w : World) (hs : shr n = true) (hD : smE n g = 0) (hw : wi q 0 3 = true) (hB : b4E 8000 h = 0) (hG : GS w (.slice A n c) n g) :
    Calls Try.prog 12 #[.slice A n c, .int .i64 q, .agg (arr (flt h))] w fun e w' => e = .returned (.bool true) ∧ Below w.heap.size w w' := by
  have hn : n ≤ 404 := by unfold shr at hs; simp at hs; omega
  have hA : GA w A n g := by obtain ⟨A', c', e, h, _⟩ := hG; cases e; exact h
  have hE : boE n g q = 0 := by unfold boE fs2 rgE; rw [hD, hw]; rfl
  have HSH := Lib.hid (fun W => short_any A n c W)
  rw [hs] at HSH
  have HCG := Lib.hid (fun W (hW : Below w.heap.size w W) => copyG_any (.slice A n c) n g W (by omega) (hG.on hW))
  obtain ⟨X, hX⟩ : ∃ X, (bnS (-q) g n).1 = X := ⟨_, rfl⟩
  obtain ⟨Y, hY⟩ : ∃ Y, (bnS (-q) g n).2 = Y := ⟨_, rfl⟩
  have HBO := Lib.hid (fun A1 c1 W (h : GA W A1 n g) => binOfS_all A1 n c1 g q (0) X Y hE (fun _ => ⟨hX.symm, hY.symm⟩) (fun e => absurd rfl e) W (by omega) h)
  obtain ⟨F, hF⟩ : ∃ F, bnF g n = F := ⟨_, rfl⟩
  have HBS := Lib.hid (fun A1 c1 W (h : GA W A1 n g) => binsOfS_all A1 n c1 g (0) F hD (fun _ => hF.symm) (fun e => absurd rfl e) W (by omega) h)
  have HRB := Lib.hid (fun W (hW : Below w.heap.size w W) => binsOfR_arr A n c g hD W (hA.bel hW))
  rw [hF] at HRB
  have hwq := wi_t.1 hw
  have h2000 := (sm_0 hD).2
  have HRO := Lib.hid (fun W (hW : Below w.heap.size w W) => binOfR_any A n c g q W (by omega) (hA.bel hW) (by omega) (by omega) (fun i hi => by have := h2000 i hi; omega))
  rw [hX, hY] at HRO
  clear hwq h2000
  have HSE := Lib.hid (fun W (hW : Below w.heap.size w W) => samplesErr_any A n c g W (by omega) (hA.bel hW))
  rw [hD] at HSE
  have HQE := Lib.hid (fun W => quarterErr_any q W)
  rw [show rgE q 0 3 = 0 by unfold rgE; rw [hw]; rfl] at HQE
  have HBE := Lib.hid (fun W => binsErr_arr h W)
  rw [hB] at HBE
  obtain ⟨z, Er, hz1, hz2⟩ := restored_both h hB
  have HRS := Lib.hid hz1
  have HRR := Lib.hid hz2
  clear hz1 hz2
  clear hA hG hE hs hD hB hF hX hY
  go_enter Try.func12, Try.ntmps12
  go_upto_region 6 with (first
    | (go_at_call 17; (with_reducible refine Calls.mono (awake_any _) ?_); rintro e yx ⟨rfl, hbx⟩; (try replace p0 := keep hbx p0); (try replace p1 := keep hbx p1); (try replace HM5 := Lib.hid (HM5.out.on hbx)); (try replace HM9 := Lib.hid (HM9.out.on hbx)); (try replace HM11 := Lib.hid (HM11.out.on hbx)); (try replace HM14 := Lib.hid (HM14.out.on hbx)); (try replace TC := Lib.hid (TC.out.bel hbx)); (first | replace BV := Lib.hid (belowT (show Below w.heap.size w _ by have Bq := BV.out; have Bz := Bq.size; (repeat (first | with_reducible exact Below.refl _ _ | with_reducible assumption | with_reducible refine Below.alloc ?_ (by first | (simp; done) | (simp; omega) | omega) _ | with_reducible refine Below.setCell ?_ (by first | (simp; done) | (simp; omega) | omega) _ | with_reducible refine Below.drew ?_ | with_reducible refine below_drewN ?_ _))) hbx) | have BV := Lib.hid (belowT (show Below w.heap.size w _ by (repeat (first | with_reducible exact Below.refl _ _ | with_reducible assumption | with_reducible refine Below.alloc ?_ (by first | (simp; done) | (simp; omega) | omega) _ | with_reducible refine Below.setCell ?_ (by first | (simp; done) | (simp; omega) | omega) _ | with_reducible refine Below.drew ?_ | with_reducible refine below_drewN ?_ _))) hbx)); have HM5 : Hid (IM yx w.heap.size 8 (flt h)) := Lib.hid (IM.on (arr_im w (flt h) 102) hbx); clear hbx)
    | (go_at_call 47; (with_reducible refine Calls.mono (HSH.out _) ?_); rintro e yx ⟨rfl, hbx⟩; (try replace p0 := keep hbx p0); (try replace p1 := keep hbx p1); (try replace HM5 := Lib.hid (HM5.out.on hbx)); (try replace HM9 := Lib.hid (HM9.out.on hbx)); (try replace HM11 := Lib.hid (HM11.out.on hbx)); (try replace HM14 := Lib.hid (HM14.out.on hbx)); (try replace TC := Lib.hid (TC.out.bel hbx)); (first | replace BV := Lib.hid (belowT (show Below w.heap.size w _ by have Bq := BV.out; have Bz := Bq.size; (repeat (first | with_reducible exact Below.refl _ _ | with_reducible assumption | with_reducible refine Below.alloc ?_ (by first | (simp; done) | (simp; omega) | omega) _ | with_reducible refine Below.setCell ?_ (by first | (simp; done) | (simp; omega) | omega) _ | with_reducible refine Below.drew ?_ | with_reducible refine below_drewN ?_ _))) hbx) | have BV := Lib.hid (belowT (show Below w.heap.size w _ by (repeat (first | with_reducible exact Below.refl _ _ | with_reducible assumption | with_reducible refine Below.alloc ?_ (by first | (simp; done) | (simp; omega) | omega) _ | with_reducible refine Below.setCell ?_ (by first | (simp; done) | (simp; omega) | omega) _ | with_reducible refine Below.drew ?_ | with_reducible refine below_drewN ?_ _))) hbx)); clear hbx)
    | (go_at_call 49; (with_reducible refine Calls.mono (HCG.out _ BV.out) ?_); rintro e yx ⟨vc, rfl, hbx, Ac, cc, rfl, hGc, _⟩; (try replace p0 := keep hbx p0); (try replace p1 := keep hbx p1); (try replace HM5 := Lib.hid (HM5.out.on hbx)); (try replace HM9 := Lib.hid (HM9.out.on hbx)); (try replace HM11 := Lib.hid (HM11.out.on hbx)); (try replace HM14 := Lib.hid (HM14.out.on hbx)); (try replace TC := Lib.hid (TC.out.bel hbx)); (first | replace BV := Lib.hid (belowT (show Below w.heap.size w _ by have Bq := BV.out; have Bz := Bq.size; (repeat (first | with_reducible exact Below.refl _ _ | with_reducible assumption | with_reducible refine Below.alloc ?_ (by first | (simp; done) | (simp; omega) | omega) _ | with_reducible refine Below.setCell ?_ (by first | (simp; done) | (simp; omega) | omega) _ | with_reducible refine Below.drew ?_ | with_reducible refine below_drewN ?_ _))) hbx) | have BV := Lib.hid (belowT (show Below w.heap.size w _ by (repeat (first | with_reducible exact Below.refl _ _ | with_reducible assumption | with_reducible refine Below.alloc ?_ (by first | (simp; done) | (simp; omega) | omega) _ | with_reducible refine Below.setCell ?_ (by first | (simp; done) | (simp; omega) | omega) _ | with_reducible refine Below.drew ?_ | with_reducible refine below_drewN ?_ _))) hbx)); have TC := Lib.hid hGc; clear hGc; clear hbx)
    | (go_at_call 72; (with_reducible refine Calls.mono (HBO.out _ _ _ TC.out) ?_); rintro e yx ⟨rfl, hbx⟩; (try replace p0 := keep hbx p0); (try replace p1 := keep hbx p1); (try replace HM5 := Lib.hid (HM5.out.on hbx)); (try replace HM9 := Lib.hid (HM9.out.on hbx)); (try replace HM11 := Lib.hid (HM11.out.on hbx)); (try replace HM14 := Lib.hid (HM14.out.on hbx)); (try replace TC := Lib.hid (TC.out.bel hbx)); (first | replace BV := Lib.hid (belowT (show Below w.heap.size w _ by have Bq := BV.out; have Bz := Bq.size; (repeat (first | with_reducible exact Below.refl _ _ | with_reducible assumption | with_reducible refine Below.alloc ?_ (by first | (simp; done) | (simp; omega) | omega) _ | with_reducible refine Below.setCell ?_ (by first | (simp; done) | (simp; omega) | omega) _ | with_reducible refine Below.drew ?_ | with_reducible refine below_drewN ?_ _))) hbx) | have BV := Lib.hid (belowT (show Below w.heap.size w _ by (repeat (first | with_reducible exact Below.refl _ _ | with_reducible assumption | with_reducible refine Below.alloc ?_ (by first | (simp; done) | (simp; omega) | omega) _ | with_reducible refine Below.setCell ?_ (by first | (simp; done) | (simp; omega) | omega) _ | with_reducible refine Below.drew ?_ | with_reducible refine below_drewN ?_ _))) hbx)); clear hbx))
  obtain ⟨b7, hb7⟩ : ∃ b7, yx.heap.size = b7 := ⟨_, rfl⟩
  have hvv : Below yx.heap.size yx (yx.alloc (.cells #[.int .i64 X, .int .i64 Y] 23)) := (Below.refl _ _).alloc (Nat.le_refl _) _
  have p0 : (yx.alloc (.cells #[.int .i64 X, .int .i64 Y] 23)).cell? ⟨b7, 0, none⟩ = some (.int .i64 X) := by rw [← hb7]; simp [go_sem]
  have p1 : (yx.alloc (.cells #[.int .i64 X, .int .i64 Y] 23)).cell? ⟨b7, 1, none⟩ = some (.int .i64 Y) := by rw [← hb7]; simp [go_sem]
  replace HM5 := Lib.hid (HM5.out.on hvv)
  replace BV := Lib.hid (belowT BV.out hvv)
  clear hvv
  generalize (yx.alloc (.cells #[.int .i64 X, .int .i64 Y] 23)) = v1 at *
  rw [hb7]
  clear hb7
  go_upto_region 7 with (first
    | (go_at_call 49; (with_reducible refine Calls.mono (HCG.out _ BV.out) ?_); rintro e yx ⟨vc, rfl, hbx, Ac, cc, rfl, hGc, _⟩; (try replace p0 := keep hbx p0); (try replace p1 := keep hbx p1); (try replace HM5 := Lib.hid (HM5.out.on hbx)); (try replace HM9 := Lib.hid (HM9.out.on hbx)); (try replace HM11 := Lib.hid (HM11.out.on hbx)); (try replace HM14 := Lib.hid (HM14.out.on hbx)); (try replace TC := Lib.hid (TC.out.bel hbx)); (first | replace BV := Lib.hid (belowT (show Below w.heap.size w _ by have Bq := BV.out; have Bz := Bq.size; (repeat (first | with_reducible exact Below.refl _ _ | with_reducible assumption | with_reducible refine Below.alloc ?_ (by first | (simp; done) | (simp; omega) | omega) _ | with_reducible refine Below.setCell ?_ (by first | (simp; done) | (simp; omega) | omega) _ | with_reducible refine Below.drew ?_ | with_reducible refine below_drewN ?_ _))) hbx) | have BV := Lib.hid (belowT (show Below w.heap.size w _ by (repeat (first | with_reducible exact Below.refl _ _ | with_reducible assumption | with_reducible refine Below.alloc ?_ (by first | (simp; done) | (simp; omega) | omega) _ | with_reducible refine Below.setCell ?_ (by first | (simp; done) | (simp; omega) | omega) _ | with_reducible refine Below.drew ?_ | with_reducible refine below_drewN ?_ _))) hbx)); have TC := Lib.hid hGc; clear hGc; clear hbx)
    | (go_at_call 73; (with_reducible refine Calls.mono (HBS.out _ _ _ TC.out) ?_); rintro e yx ⟨rfl, hbx⟩; (try replace p0 := keep hbx p0); (try replace p1 := keep hbx p1); (try replace HM5 := Lib.hid (HM5.out.on hbx)); (try replace HM9 := Lib.hid (HM9.out.on hbx)); (try replace HM11 := Lib.hid (HM11.out.on hbx)); (try replace HM14 := Lib.hid (HM14.out.on hbx)); (try replace TC := Lib.hid (TC.out.bel hbx)); (first | replace BV := Lib.hid (belowT (show Below w.heap.size w _ by have Bq := BV.out; have Bz := Bq.size; (repeat (first | with_reducible exact Below.refl _ _ | with_reducible assumption | with_reducible refine Below.alloc ?_ (by first | (simp; done) | (simp; omega) | omega) _ | with_reducible refine Below.setCell ?_ (by first | (simp; done) | (simp; omega) | omega) _ | with_reducible refine Below.drew ?_ | with_reducible refine below_drewN ?_ _))) hbx) | have BV := Lib.hid (belowT (show Below w.heap.size w _ by (repeat (first | with_reducible exact Below.refl _ _ | with_reducible assumption | with_reducible refine Below.alloc ?_ (by first | (simp; done) | (simp; omega) | omega) _ | with_reducible refine Below.setCell ?_ (by first | (simp; done) | (simp; omega) | omega) _ | with_reducible refine Below.drew ?_ | with_reducible refine below_drewN ?_ _))) hbx)); clear hbx)
    | (refine wl_st8n rfl _ _ rfl _ rfl rfl (F) rfl ?_))
  obtain ⟨b9, hb9⟩ : ∃ b9, yx.heap.size = b9 := ⟨_, rfl⟩
  have hvv : Below yx.heap.size yx (yx.alloc (.cells (arr F) 102)) := (Below.refl _ _).alloc (Nat.le_refl _) _
  have HM9 : Hid (IM (yx.alloc (.cells (arr F) 102)) b9 8 (F)) := Lib.hid (hb9 ▸ arr_im yx (F) 102)
  replace HM5 := Lib.hid (HM5.out.on hvv)
  replace p0 := keep hvv p0
  replace p1 := keep hvv p1
  replace BV := Lib.hid (belowT BV.out hvv)
  clear hvv
  generalize (yx.alloc (.cells (arr F) 102)) = v2 at *
  rw [hb9]
  clear hb9
  go_upto_region 8 with (first
    | (refine wl_ld8 rfl _ rfl w.heap.size rfl (flt h) HM5.out ?_)
    | (go_at_call 74; (with_reducible refine Calls.mono (HRS.out _) ?_); rintro e yx ⟨rfl, hbx⟩; (try replace p0 := keep hbx p0); (try replace p1 := keep hbx p1); (try replace HM5 := Lib.hid (HM5.out.on hbx)); (try replace HM9 := Lib.hid (HM9.out.on hbx)); (try replace HM11 := Lib.hid (HM11.out.on hbx)); (try replace HM14 := Lib.hid (HM14.out.on hbx)); (try replace TC := Lib.hid (TC.out.bel hbx)); (first | replace BV := Lib.hid (belowT (show Below w.heap.size w _ by have Bq := BV.out; have Bz := Bq.size; (repeat (first | with_reducible exact Below.refl _ _ | with_reducible assumption | with_reducible refine Below.alloc ?_ (by first | (simp; done) | (simp; omega) | omega) _ | with_reducible refine Below.setCell ?_ (by first | (simp; done) | (simp; omega) | omega) _ | with_reducible refine Below.drew ?_ | with_reducible refine below_drewN ?_ _))) hbx) | have BV := Lib.hid (belowT (show Below w.heap.size w _ by (repeat (first | with_reducible exact Below.refl _ _ | with_reducible assumption | with_reducible refine Below.alloc ?_ (by first | (simp; done) | (simp; omega) | omega) _ | with_reducible refine Below.setCell ?_ (by first | (simp; done) | (simp; omega) | omega) _ | with_reducible refine Below.drew ?_ | with_reducible refine below_drewN ?_ _))) hbx)); clear hbx)
    | (refine wl_st8n rfl _ _ rfl _ rfl rfl (z) rfl ?_))
  obtain ⟨b11, hb11⟩ : ∃ b11, yx.heap.size = b11 := ⟨_, rfl⟩
  have hvv : Below yx.heap.size yx (yx.alloc (.cells (arr (z)) 102)) := (Below.refl _ _).alloc (Nat.le_refl _) _
  have HM11 : Hid (IM (yx.alloc (.cells (arr (z)) 102)) b11 8 (z)) := Lib.hid (hb11 ▸ arr_im yx (z) 102)
  replace HM5 := Lib.hid (HM5.out.on hvv)
  replace HM9 := Lib.hid (HM9.out.on hvv)
  replace p0 := keep hvv p0
  replace p1 := keep hvv p1
  replace BV := Lib.hid (belowT BV.out hvv)
  clear hvv
  generalize (yx.alloc (.cells (arr (z)) 102)) = v3 at *
  rw [hb11]
  clear hb11
  go_upto_region 10 with (first
    | (refine wl_ld8 rfl _ rfl w.heap.size rfl (flt h) HM5.out ?_)
    | (go_at_call 75; (with_reducible refine Calls.mono (HBE.out _) ?_); rintro e yx ⟨rfl, hbx⟩; (try replace p0 := keep hbx p0); (try replace p1 := keep hbx p1); (try replace HM5 := Lib.hid (HM5.out.on hbx)); (try replace HM9 := Lib.hid (HM9.out.on hbx)); (try replace HM11 := Lib.hid (HM11.out.on hbx)); (try replace HM14 := Lib.hid (HM14.out.on hbx)); (try replace TC := Lib.hid (TC.out.bel hbx)); (first | replace BV := Lib.hid (belowT (show Below w.heap.size w _ by have Bq := BV.out; have Bz := Bq.size; (repeat (first | with_reducible exact Below.refl _ _ | with_reducible assumption | with_reducible refine Below.alloc ?_ (by first | (simp; done) | (simp; omega) | omega) _ | with_reducible refine Below.setCell ?_ (by first | (simp; done) | (simp; omega) | omega) _ | with_reducible refine Below.drew ?_ | with_reducible refine below_drewN ?_ _))) hbx) | have BV := Lib.hid (belowT (show Below w.heap.size w _ by (repeat (first | with_reducible exact Below.refl _ _ | with_reducible assumption | with_reducible refine Below.alloc ?_ (by first | (simp; done) | (simp; omega) | omega) _ | with_reducible refine Below.setCell ?_ (by first | (simp; done) | (simp; omega) | omega) _ | with_reducible refine Below.drew ?_ | with_reducible refine below_drewN ?_ _))) hbx)); clear hbx))
  have hlt : w.heap.size < yx.heap.size ∧ b7 < yx.heap.size ∧ b9 < yx.heap.size ∧ b11 < yx.heap.size := ⟨HM5.out.1, lt_of p0, HM9.out.1, HM11.out.1⟩
  obtain ⟨b14, hb14⟩ : ∃ b14, yx.heap.size = b14 := ⟨_, rfl⟩
  have hvv : Below yx.heap.size yx (yx.alloc (.cells #[.int .i64 0, .int .i64 0, .int .i64 0, .int .i64 0, .int .i64 0, .int .i64 0, .int .i64 0, .int .i64 0] 102)) := (Below.refl _ _).alloc (Nat.le_refl _) _
  have HM14 : Hid (IM (yx.alloc (.cells #[.int .i64 0, .int .i64 0, .int .i64 0, .int .i64 0, .int .i64 0, .int .i64 0, .int .i64 0, .int .i64 0] 102)) b14 8 (fun _ => 0)) := Lib.hid (hb14 ▸ arr_im yx (fun _ => 0) 102)
  replace HM5 := Lib.hid (HM5.out.on hvv)
  replace HM9 := Lib.hid (HM9.out.on hvv)
  replace HM11 := Lib.hid (HM11.out.on hvv)
  replace p0 := keep hvv p0
  replace p1 := keep hvv p1
  replace BV := Lib.hid (belowT BV.out hvv)
  clear hvv
  generalize (yx.alloc (.cells #[.int .i64 0, .int .i64 0, .int .i64 0, .int .i64 0, .int .i64 0, .int .i64 0, .int .i64 0, .int .i64 0] 102)) = v4 at *
  rw [hb14] at hlt ⊢
  clear hb14
  go_upto_region 12 with (first
    | (refine wl_ld8 rfl _ rfl w.heap.size rfl (flt h) HM5.out ?_)
    | (go_at_call 76; (with_reducible refine Calls.mono (HRR.out _) ?_); rintro e yx ⟨rfl, hbx⟩; (try replace p0 := keep hbx p0); (try replace p1 := keep hbx p1); (try replace HM5 := Lib.hid (HM5.out.on hbx)); (try replace HM9 := Lib.hid (HM9.out.on hbx)); (try replace HM11 := Lib.hid (HM11.out.on hbx)); (try replace HM14 := Lib.hid (HM14.out.on hbx)); (try replace TC := Lib.hid (TC.out.bel hbx)); (first | replace BV := Lib.hid (belowT (show Below w.heap.size w _ by have Bq := BV.out; have Bz := Bq.size; (repeat (first | with_reducible exact Below.refl _ _ | with_reducible assumption | with_reducible refine Below.alloc ?_ (by first | (simp; done) | (simp; omega) | omega) _ | with_reducible refine Below.setCell ?_ (by first | (simp; done) | (simp; omega) | omega) _ | with_reducible refine Below.drew ?_ | with_reducible refine below_drewN ?_ _))) hbx) | have BV := Lib.hid (belowT (show Below w.heap.size w _ by (repeat (first | with_reducible exact Below.refl _ _ | with_reducible assumption | with_reducible refine Below.alloc ?_ (by first | (simp; done) | (simp; omega) | omega) _ | with_reducible refine Below.setCell ?_ (by first | (simp; done) | (simp; omega) | omega) _ | with_reducible refine Below.drew ?_ | with_reducible refine below_drewN ?_ _))) hbx)); clear hbx)
    | (refine wl_st8 rfl _ _ rfl b14 rfl (fun _ => 0) z HM14.out rfl ?_; intro w7 hM7 hB7; replace HM14 := Lib.hid hM7; replace HM5 := Lib.hid (HM5.out.onB hB7 (by omega)); replace HM9 := Lib.hid (HM9.out.onB hB7 (by omega)); replace HM11 := Lib.hid (HM11.out.onB hB7 (by omega)); replace p0 := (hB7.cell (p := ⟨b7, 0, none⟩) (by show b7 < b14; omega)).trans p0; replace p1 := (hB7.cell (p := ⟨b7, 1, none⟩) (by show b7 < b14; omega)).trans p1; replace BV := Lib.hid (BV.out.trans (hB7.mono (by omega))); clear hM7 hB7))
  have ca0 : _ = some (Value.int .i64 (z 0)) := (HM11.out.2 0 (by omega)).1; have ca1 : _ = some (Value.int .i64 (z 1)) := (HM11.out.2 1 (by omega)).1; have ca2 : _ = some (Value.int .i64 (z 2)) := (HM11.out.2 2 (by omega)).1; have ca3 : _ = some (Value.int .i64 (z 3)) := (HM11.out.2 3 (by omega)).1; have ca4 : _ = some (Value.int .i64 (z 4)) := (HM11.out.2 4 (by omega)).1; have ca5 : _ = some (Value.int .i64 (z 5)) := (HM11.out.2 5 (by omega)).1; have ca6 : _ = some (Value.int .i64 (z 6)) := (HM11.out.2 6 (by omega)).1; have ca7 : _ = some (Value.int .i64 (z 7)) := (HM11.out.2 7 (by omega)).1
  have cb0 : _ = some (Value.int .i64 (z 0)) := (HM14.out.2 0 (by omega)).1; have cb1 : _ = some (Value.int .i64 (z 1)) := (HM14.out.2 1 (by omega)).1; have cb2 : _ = some (Value.int .i64 (z 2)) := (HM14.out.2 2 (by omega)).1; have cb3 : _ = some (Value.int .i64 (z 3)) := (HM14.out.2 3 (by omega)).1; have cb4 : _ = some (Value.int .i64 (z 4)) := (HM14.out.2 4 (by omega)).1; have cb5 : _ = some (Value.int .i64 (z 5)) := (HM14.out.2 5 (by omega)).1; have cb6 : _ = some (Value.int .i64 (z 6)) := (HM14.out.2 6 (by omega)).1; have cb7 : _ = some (Value.int .i64 (z 7)) := (HM14.out.2 7 (by omega)).1
  go_upto_region 17 with (first
    | (refine wl_arN _ _ _ rfl rfl (z) rfl rfl ?_)
    | (go_at_call 53; (with_reducible refine Calls.mono (HSE.out _ BV.out) ?_); rintro e yx ⟨rfl, hbx⟩; (try replace p0 := keep hbx p0); (try replace p1 := keep hbx p1); (try replace HM5 := Lib.hid (HM5.out.on hbx)); (try replace HM9 := Lib.hid (HM9.out.on hbx)); (try replace HM11 := Lib.hid (HM11.out.on hbx)); (try replace HM14 := Lib.hid (HM14.out.on hbx)); (try replace TC := Lib.hid (TC.out.bel hbx)); (first | replace BV := Lib.hid (belowT (show Below w.heap.size w _ by have Bq := BV.out; have Bz := Bq.size; (repeat (first | with_reducible exact Below.refl _ _ | with_reducible assumption | with_reducible refine Below.alloc ?_ (by first | (simp; done) | (simp; omega) | omega) _ | with_reducible refine Below.setCell ?_ (by first | (simp; done) | (simp; omega) | omega) _ | with_reducible refine Below.drew ?_ | with_reducible refine below_drewN ?_ _))) hbx) | have BV := Lib.hid (belowT (show Below w.heap.size w _ by (repeat (first | with_reducible exact Below.refl _ _ | with_reducible assumption | with_reducible refine Below.alloc ?_ (by first | (simp; done) | (simp; omega) | omega) _ | with_reducible refine Below.setCell ?_ (by first | (simp; done) | (simp; omega) | omega) _ | with_reducible refine Below.drew ?_ | with_reducible refine below_drewN ?_ _))) hbx)); clear hbx))
  clear ca0 cb0 ca1 cb1 ca2 cb2 ca3 cb3 ca4 cb4 ca5 cb5 ca6 cb6 ca7 cb7
  generalize yx = vx at *
  refine wp_region_gd [mpEq (.int .i64 0), mpEq (.bool false), mpEq (.bool false), mpEq (.agg (arr F)), mpEq (.slice A n c), mpEq (.agg (arr F)), mpEq (.bool false), mpEq (.bool false)] qf0 (by kernel_rfl) (by kernel_rfl) (by kernel_rfl) (
        allOps_cons (fun a' w' hb hs hd => Or.inl ⟨wanted_n rfl, rg_op fun K hK => by
      have e0 := (hs.get 10 (by kernel_rfl)).trans (show _ = .int .i64 0 from rfl)
      have ec : ∀ v, a'.eval (.const v) = v := fun _ => rfl
      clear hs hd
      unfold Oper.wp
      generalize a'.eval = ρ at e0 ec ⊢
      simp [go_sem, e0]
      exact hK _ _ (Below.refl _ _) rfl⟩) <|
        allOps_cons (fun a' w' hb hs hd => Or.inl ⟨wanted_n rfl, rg_op fun K hK => by
      have e0 := (show a'.eval (.tmp 79) = .int .i64 0 from hd.get 0 79 (by kernel_rfl) (by kernel_rfl))
      have ec : ∀ v, a'.eval (.const v) = v := fun _ => rfl
      clear hs hd
      unfold Oper.wp
      generalize a'.eval = ρ at e0 ec ⊢
      simp [go_sem, e0, ec]
      exact hK _ _ (Below.refl _ _) rfl⟩) <|
        allOps_cons (fun a' w' hb hs hd => Or.inl ⟨wanted_n rfl, rg_op fun K hK => by
      have e0 := (show a'.eval (.tmp 80) = .bool false from hd.get 1 80 (by kernel_rfl) (by kernel_rfl))
      have ec : ∀ v, a'.eval (.const v) = v := fun _ => rfl
      clear hs hd
      unfold Oper.wp
      generalize a'.eval = ρ at e0 ec ⊢
      simp [go_sem, e0]
      exact hK _ _ (Below.refl _ _) rfl⟩) <|
        allOps_cons (fun a' w' hb hs hd => Or.inl ⟨wanted_t (j := 2) (d := 81) rfl (by kernel_rfl) (show a'.eval (.tmp 81) = .bool false from hd.get 2 81 (by kernel_rfl) (by kernel_rfl)), rg_op fun K hK => by
      have e0 : a'.eval (.tmp 9) = .pointer (some ⟨b9, 0, none⟩) := (hs.get 9 (by kernel_rfl)).trans (show _ = Value.pointer (some ⟨b9, 0, none⟩) from rfl)
      exact op_ld8 rfl e0 (HM9.out.on hb) (hK _ _ (Below.refl _ _) rfl)⟩) <|
        allOps_cons (fun a' w' hb hs hd => Or.inl ⟨wanted_t (j := 2) (d := 81) rfl (by kernel_rfl) (show a'.eval (.tmp 81) = .bool false from hd.get 2 81 (by kernel_rfl) (by kernel_rfl)), rg_op fun K hK => by
      have e0 := (hs.get 0 (by kernel_rfl)).trans (show _ = .slice A n c from rfl)
      have ec : ∀ v, a'.eval (.const v) = v := fun _ => rfl
      clear hs hd
      unfold Oper.wp
      generalize a'.eval = ρ at e0 ec ⊢
      simp [go_sem, e0]
      exact hK _ _ (Below.refl _ _) rfl⟩) <|
        allOps_cons (fun a' w' hb hs hd => Or.inl ⟨wanted_t (j := 2) (d := 81) rfl (by kernel_rfl) (show a'.eval (.tmp 81) = .bool false from hd.get 2 81 (by kernel_rfl) (by kernel_rfl)), by
      exact rg_fn (φ := (mpEq (.agg (arr F))).p) (vs := #[.slice A n c]) rfl (enters_of Try.func77 (by kernel_rfl) rfl) (by simp [(show a'.eval (.tmp 83) = .slice A n c from hd.get 4 83 (by kernel_rfl) (by kernel_rfl))]) ((HRB.out w' (belowT BV.out hb)).mono (by rintro e w1 ⟨rfl, h1⟩; exact ⟨_, rfl, h1, rfl⟩))⟩) <|
        allOps_cons (fun a' w' hb hs hd => Or.inl ⟨wanted_t (j := 2) (d := 81) rfl (by kernel_rfl) (show a'.eval (.tmp 81) = .bool false from hd.get 2 81 (by kernel_rfl) (by kernel_rfl)), rg_op fun K hK => by
      have e0 : a'.eval (.tmp 82) = .agg (arr F) := (show a'.eval (.tmp 82) = .agg (arr F) from hd.get 3 82 (by kernel_rfl) (by kernel_rfl))
      have e1 : a'.eval (.tmp 84) = .agg (arr F) := (show a'.eval (.tmp 84) = .agg (arr F) from hd.get 5 84 (by kernel_rfl) (by kernel_rfl))
      exact op_arN rfl e0 e1 (hK _ _ (Below.refl _ _) rfl)⟩) <|
        allOps_cons (fun a' w' hb hs hd => Or.inl ⟨wanted_n rfl, rg_op fun K hK => by
      have e0 := (show a'.eval (.tmp 81) = .bool false from hd.get 2 81 (by kernel_rfl) (by kernel_rfl))
      have e1 := (show a'.eval (.tmp 85) = .bool false from hd.get 6 85 (by kernel_rfl) (by kernel_rfl))
      have ec : ∀ v, a'.eval (.const v) = v := fun _ => rfl
      clear hs hd
      unfold Oper.wp
      generalize a'.eval = ρ at e0 e1 ec ⊢
      simp [go_sem, e0, e1, ec]
      exact hK _ _ (Below.refl _ _) rfl⟩) <| allOps_nil) (fun V v5 hv5 hall => ?_)
  have h86 : V 86 = .bool false := hall.get 7 rfl
  clear hall
  simp only [qf0, maskPut, Nat.reduceAdd]
  rw [h86]
  clear h86
  replace BV := Lib.hid (belowT BV.out hv5)
  replace p0 := keep hv5 p0
  replace p1 := keep hv5 p1
  clear hv5 HM5 HM9 HM11 HM14
  go_upto_region 22 with (first
    | (go_at_call 67; (with_reducible refine Calls.mono (HQE.out _) ?_); rintro e yx ⟨rfl, hbx⟩; (try replace p0 := keep hbx p0); (try replace p1 := keep hbx p1); (try replace HM5 := Lib.hid (HM5.out.on hbx)); (try replace HM9 := Lib.hid (HM9.out.on hbx)); (try replace HM11 := Lib.hid (HM11.out.on hbx)); (try replace HM14 := Lib.hid (HM14.out.on hbx)); (try replace TC := Lib.hid (TC.out.bel hbx)); (first | replace BV := Lib.hid (belowT (show Below w.heap.size w _ by have Bq := BV.out; have Bz := Bq.size; (repeat (first | with_reducible exact Below.refl _ _ | with_reducible assumption | with_reducible refine Below.alloc ?_ (by first | (simp; done) | (simp; omega) | omega) _ | with_reducible refine Below.setCell ?_ (by first | (simp; done) | (simp; omega) | omega) _ | with_reducible refine Below.drew ?_ | with_reducible refine below_drewN ?_ _))) hbx) | have BV := Lib.hid (belowT (show Below w.heap.size w _ by (repeat (first | with_reducible exact Below.refl _ _ | with_reducible assumption | with_reducible refine Below.alloc ?_ (by first | (simp; done) | (simp; omega) | omega) _ | with_reducible refine Below.setCell ?_ (by first | (simp; done) | (simp; omega) | omega) _ | with_reducible refine Below.drew ?_ | with_reducible refine below_drewN ?_ _))) hbx)); clear hbx))
  generalize yx = vy at *
  refine wp_region_gd [mpEq (.int .i64 0), mpEq (.bool true), mpEq (.bool true), mpEq (.agg #[.int .i64 X, .int .i64 Y]), mpEq (.slice A n c), mpEq (.int .i64 q), mpEq (.agg #[.int .i64 X, .int .i64 Y]), mpEq (.bool true), mpEq (.bool true), mpEq (.bool true)] qf1 (by kernel_rfl) (by kernel_rfl) (by kernel_rfl) (
        allOps_cons (fun a' w' hb hs hd => Or.inl ⟨wanted_n rfl, rg_op fun K hK => by
      have e0 := (hs.get 8 (by kernel_rfl)).trans (show _ = .int .i64 0 from rfl)
      have ec : ∀ v, a'.eval (.const v) = v := fun _ => rfl
      clear hs hd
      unfold Oper.wp
      generalize a'.eval = ρ at e0 ec ⊢
      simp [go_sem, e0]
      exact hK _ _ (Below.refl _ _) rfl⟩) <|
        allOps_cons (fun a' w' hb hs hd => Or.inl ⟨wanted_n rfl, rg_op fun K hK => by
      have e0 := (show a'.eval (.tmp 99) = .int .i64 0 from hd.get 0 99 (by kernel_rfl) (by kernel_rfl))
      have ec : ∀ v, a'.eval (.const v) = v := fun _ => rfl
      clear hs hd
      unfold Oper.wp
      generalize a'.eval = ρ at e0 ec ⊢
      simp [go_sem, e0, ec]
      exact hK _ _ (Below.refl _ _) rfl⟩) <|
        allOps_cons (fun a' w' hb hs hd => Or.inl ⟨wanted_n rfl, rg_op fun K hK => by
      have e0 := (show a'.eval (.tmp 100) = .bool true from hd.get 1 100 (by kernel_rfl) (by kernel_rfl))
      have ec : ∀ v, a'.eval (.const v) = v := fun _ => rfl
      clear hs hd
      unfold Oper.wp
      generalize a'.eval = ρ at e0 ec ⊢
      simp [go_sem, e0]
      exact hK _ _ (Below.refl _ _) rfl⟩) <|
        allOps_cons (fun a' w' hb hs hd => Or.inl ⟨wanted_t (j := 2) (d := 101) rfl (by kernel_rfl) (show a'.eval (.tmp 101) = .bool true from hd.get 2 101 (by kernel_rfl) (by kernel_rfl)), rg_op fun K hK => by
      have e0 := (hs.get 7 (by kernel_rfl)).trans (show _ = .pointer (some ⟨b7, 0, none⟩) from rfl)
      have ec : ∀ v, a'.eval (.const v) = v := fun _ => rfl
      have c0 := keep hb p0
      have c1 := keep hb p1
      clear hs hd
      unfold Oper.wp
      generalize a'.eval = ρ at e0 ec ⊢
      simp [go_sem, e0, c0, c1]
      exact hK _ _ (Below.refl _ _) rfl⟩) <|
        allOps_cons (fun a' w' hb hs hd => Or.inl ⟨wanted_t (j := 2) (d := 101) rfl (by kernel_rfl) (show a'.eval (.tmp 101) = .bool true from hd.get 2 101 (by kernel_rfl) (by kernel_rfl)), rg_op fun K hK => by
      have e0 := (hs.get 0 (by kernel_rfl)).trans (show _ = .slice A n c from rfl)
      have ec : ∀ v, a'.eval (.const v) = v := fun _ => rfl
      clear hs hd
      unfold Oper.wp
      generalize a'.eval = ρ at e0 ec ⊢
      simp [go_sem, e0]
      exact hK _ _ (Below.refl _ _) rfl⟩) <|
        allOps_cons (fun a' w' hb hs hd => Or.inl ⟨wanted_t (j := 2) (d := 101) rfl (by kernel_rfl) (show a'.eval (.tmp 101) = .bool true from hd.get 2 101 (by kernel_rfl) (by kernel_rfl)), rg_op fun K hK => by
      have e0 := (hs.get 1 (by kernel_rfl)).trans (show _ = .int .i64 q from rfl)
      have ec : ∀ v, a'.eval (.const v) = v := fun _ => rfl
      clear hs hd
      unfold Oper.wp
      generalize a'.eval = ρ at e0 ec ⊢
      simp [go_sem, e0]
      exact hK _ _ (Below.refl _ _) rfl⟩) <|
        allOps_cons (fun a' w' hb hs hd => Or.inl ⟨wanted_t (j := 2) (d := 101) rfl (by kernel_rfl) (show a'.eval (.tmp 101) = .bool true from hd.get 2 101 (by kernel_rfl) (by kernel_rfl)), by
      exact rg_fn (φ := (mpEq (.agg #[.int .i64 X, .int .i64 Y])).p) (vs := #[.slice A n c, .int .i64 q]) rfl (enters_of Try.func78 (by kernel_rfl) rfl) (by simp [(show a'.eval (.tmp 103) = .slice A n c from hd.get 4 103 (by kernel_rfl) (by kernel_rfl)), (show a'.eval (.tmp 104) = .int .i64 q from hd.get 5 104 (by kernel_rfl) (by kernel_rfl))]) ((HRO.out w' (belowT BV.out hb)).mono (by rintro e w1 ⟨rfl, h1⟩; exact ⟨_, rfl, h1, rfl⟩))⟩) <|
        allOps_cons (fun a' w' hb hs hd => Or.inl ⟨wanted_t (j := 2) (d := 101) rfl (by kernel_rfl) (show a'.eval (.tmp 101) = .bool true from hd.get 2 101 (by kernel_rfl) (by kernel_rfl)), rg_op fun K hK => by
      have e0 := (show a'.eval (.tmp 102) = .agg #[.int .i64 X, .int .i64 Y] from hd.get 3 102 (by kernel_rfl) (by kernel_rfl))
      have e1 := (show a'.eval (.tmp 105) = .agg #[.int .i64 X, .int .i64 Y] from hd.get 6 105 (by kernel_rfl) (by kernel_rfl))
      have ec : ∀ v, a'.eval (.const v) = v := fun _ => rfl
      clear hs hd
      unfold Oper.wp
      generalize a'.eval = ρ at e0 e1 ec ⊢
      simp [go_sem, e0, e1]
      exact hK _ _ (Below.refl _ _) rfl⟩) <|
        allOps_cons (fun a' w' hb hs hd => Or.inl ⟨wanted_n rfl, rg_op fun K hK => by
      have e0 := (show a'.eval (.tmp 101) = .bool true from hd.get 2 101 (by kernel_rfl) (by kernel_rfl))
      have e1 := (show a'.eval (.tmp 106) = .bool true from hd.get 7 106 (by kernel_rfl) (by kernel_rfl))
      have ec : ∀ v, a'.eval (.const v) = v := fun _ => rfl
      clear hs hd
      unfold Oper.wp
      generalize a'.eval = ρ at e0 e1 ec ⊢
      simp [go_sem, e0, e1, ec]
      exact hK _ _ (Below.refl _ _) rfl⟩) <|
        allOps_cons (fun a' w' hb hs hd => Or.inl ⟨wanted_n rfl, rg_op fun K hK => by
      have e0 := (show a'.eval (.tmp 107) = .bool true from hd.get 8 107 (by kernel_rfl) (by kernel_rfl))
      have ec : ∀ v, a'.eval (.const v) = v := fun _ => rfl
      clear hs hd
      unfold Oper.wp
      generalize a'.eval = ρ at e0 ec ⊢
      simp [go_sem, e0]
      exact hK _ _ (Below.refl _ _) rfl⟩) <| allOps_nil) (fun V v6 hv6 hall => ?_)
  have h6 : V 6 = .bool true := hall.get 9 rfl
  clear hall
  simp only [qf1, maskPut, Nat.reduceAdd]
  rw [h6]
  clear h6
  go_wp2
  go_ret
  exact ⟨rfl, belowT BV.out hv6⟩
theorem sampleBins_any (A : Option Addr) (n c : Nat) (g : Nat → Int × Int) (q : Int) (h : Nat → Int × Int) (w : World) (hG : GS w (.slice A n c) n g) :
    Calls Try.prog 12 #[.slice A n c, .int .i64 q, .agg (arr (flt h))] w fun e w' => e = .returned (.bool true) ∧ Below w.heap.size w w' := by
  cases hs : shr n
  · exact sb_many A n c q h w hs
  · by_cases hD : smE n g = 0
    · cases hw : wi q 0 3
      · by_cases hB : b4E 8000 h = 0
        · exact sb_qB A n c g q h w hs hD hw hB hG
        · exact sb_qA A n c g q h _ hB w hs hD hw rfl hG
      · by_cases hB : b4E 8000 h = 0
        · exact sb_oB A n c g q h w hs hD hw hB hG
        · exact sb_oA A n c g q h _ hB w hs hD hw rfl hG
    · by_cases hB : b4E 8000 h = 0
      · exact sb_dB A n c g q h _ hD w hs rfl hB hG
      · exact sb_dA A n c g q h _ hD _ hB w hs rfl rfl hG
end Go.Proofs.Ytpkacfgmojblbaa
