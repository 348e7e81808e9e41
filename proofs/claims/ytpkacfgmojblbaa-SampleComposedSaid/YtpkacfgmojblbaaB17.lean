/- Helpers: mixers of package sample. No condition but the bounds that each theorem names. -/
import Derived.Test.YtpkacfgmojblbaaB16
import Derived.Test.YtpkacfgmojblbaaB05
namespace Go.Proofs.Ytpkacfgmojblbaa
open Go.RowKit
attribute [local go_sem] old1 fro1 old2 fro2 old3 fro3 old4 fro4 old5 fro5 old6 fro6 old7 fro7 old8 fro8 old9 fro9 old10 fro10 old11 fro11 old12 fro12
def pd0 : List Bool := [false, false, false, false, false, false, false, false, false, false, false, false, false, false, false, false, false, false, false, false, false, false, false, false, false, false, false, false, false, false, false, true, true, true, true, true, true, true, true, true, true, true, true, false, false]
theorem made_im2 {w1 : World} {base e G n : Nat} (h : w1.ownsRow base e 2 (.slice (some ⟨G, 0, none⟩) n n) n (madeCells (Value.agg #[.int .i64 0, .int .i64 0]).cells (n * 2)).toList) : IM w1 G (n * 2) (fun _ => 0) := by
  refine ⟨(h.lt G rfl).2, fun i hi => ⟨?_, h.frozenAt i⟩⟩
  have hm : i % 2 = 0 ∨ i % 2 = 1 := by omega
  have := h.cells (g := G) rfl i (.int .i64 0) (by rcases hm with q | q <;> simp [madeCells, Value.cells, hi, q])
  rwa [addr_addI, Nat.zero_add] at this
/-- the parts of pairs, one after the other -/
def flt (h : Nat → Int × Int) (i : Nat) : Int := if i % 2 = 0 then (h (i / 2)).1 else (h (i / 2)).2
theorem flt_0 (h : Nat → Int × Int) (k : Nat) : flt h (k * 2) = (h k).1 := by
  unfold flt
  rw [if_pos (by omega), show k * 2 / 2 = k by omega]
theorem flt_1 (h : Nat → Int × Int) (k : Nat) : flt h (k * 2 + 1) = (h k).2 := by
  unfold flt
  rw [if_neg (by omega), show (k * 2 + 1) / 2 = k by omega]
theorem IM.ga {w : World} {G n : Nat} {h : Nat → Int × Int} (H : IM w G (n * 2) (flt h)) : GA w (some ⟨G, 0, none⟩) n h := fun _ => ⟨G, 0, rfl, fun i hi => by
  have h0 := (H.2 (i * 2) (by omega)).1
  have h1 := (H.2 (i * 2 + 1) (by omega)).1
  rw [flt_0] at h0
  rw [flt_1] at h1
  rw [Nat.zero_add]
  exact ⟨h0, h1⟩⟩
/-- what a factor answers -/
def mpFI (x y : Int) : MP := ⟨fun v _ => ∃ c d, v = .complex .f64 c d ∧ FI .f64 c x ∧ FI .f64 d y, fun _ _ _ h _ => h⟩
def Fac (s : Int) (gF : Nat) (cb : Array Value) : Prop := Entr gF ∧ ∀ m W, 0 ≤ m → m ≤ 3 → Calls Try.prog gF (#[.int .i64 m] ++ cb) W fun e w' => ∃ c d, e = .returned (.complex .f64 c d) ∧ FI .f64 c (qRe (s * m)) ∧ FI .f64 d (qIm (s * m)) ∧ Below W.heap.size W w'
set_option maxRecDepth 100000 in
set_option maxHeartbeats 2000000 in
theorem turned_err (ph inc ch : Int) (A : Option Addr) (n c : Nat) (g : Nat → Int × Int) (gF : Nat) (cb : Array Value) (E : Int) (hE : fs2 (prgE ph inc ch) (smE n g) = E) (h0 : E ≠ 0) (w : World) (hn : n ≤ 1000000000) (hA : GA w A n g) :
    Calls Try.prog 105 #[.agg #[.int .i64 ph, .int .i64 inc, .int .i64 ch], .slice A n c, .func (.func gF) #[] cb] w fun e w' => e = .returned (.tuple #[.slice none 0 0, .int .i64 E]) ∧ Below w.heap.size w w' := by
  have HPC := Lib.hid (fun W => programCheck_chk ph inc ch W)
  have HSC := Lib.hid (fun W (hW : Below w.heap.size w W) => samplesCheck_chk A n c g W hn (hA.bel hW))
  have hq : (E != 0) = true := by simpa using h0
  clear h0 hA
  go_enter Try.func105, Try.ntmps105
  go_wp2_with (first
    | (go_at_call 99; (with_reducible refine Calls.mono (HPC.out _) ?_); rintro e y1 ⟨v0, rfl, hb1, g0, f0, rfl, hg0, hh0⟩; have BV := Lib.hid (belowT (show Below w.heap.size w _ by (repeat (first | with_reducible exact Below.refl _ _ | with_reducible assumption | with_reducible refine Below.alloc ?_ (by first | (simp; done) | (simp; omega) | omega) _ | with_reducible refine Below.setCell ?_ (by first | (simp; done) | (simp; omega) | omega) _ | with_reducible refine Below.drew ?_ | with_reducible refine below_drewN ?_ _))) hb1); have l0 := keep hb1 (b := w.heap.size) (o := 0) (v := .int .i64 ph) (by simp [go_sem]); have l1 := keep hb1 (b := w.heap.size) (o := 1) (v := .int .i64 inc) (by simp [go_sem]); have l2 := keep hb1 (b := w.heap.size) (o := 2) (v := .int .i64 ch) (by simp [go_sem]); have K0 := Lib.hid (show Chk True _ (.func (.func g0) #[] f0) y1 from ⟨g0, f0, rfl, hg0, hh0⟩); clear hg0 hh0; clear hb1)
    | (go_at_call 108; (with_reducible refine Calls.mono (HSC.out _ (by have Bq := BV.out; (repeat (first | with_reducible exact Below.refl _ _ | with_reducible assumption | with_reducible refine Below.alloc ?_ (by first | (simp; done) | (simp; omega) | omega) _ | with_reducible refine Below.setCell ?_ (by first | (simp; done) | (simp; omega) | omega) _ | with_reducible refine Below.drew ?_ | with_reducible refine below_drewN ?_ _)))) ?_); rintro e y2 ⟨v1, rfl, hb2, g1, f1, rfl, hg1, hh1⟩; replace l0 := keep hb2 l0; replace l1 := keep hb2 l1; replace l2 := keep hb2 l2; replace BV := Lib.hid (belowT (show Below w.heap.size w _ by have Bq := BV.out; (repeat (first | with_reducible exact Below.refl _ _ | with_reducible assumption | with_reducible refine Below.alloc ?_ (by first | (simp; done) | (simp; omega) | omega) _ | with_reducible refine Below.setCell ?_ (by first | (simp; done) | (simp; omega) | omega) _ | with_reducible refine Below.drew ?_ | with_reducible refine below_drewN ?_ _))) hb2); have K1 := Lib.hid (show Chk True _ (.func (.func g1) #[] f1) y2 from ⟨g1, f1, rfl, hg1, hh1⟩); replace K0 := Lib.hid (K0.out.on hb2); clear hg1 hh1; clear hb2)
    | (go_at_call 87; (with_reducible refine Calls.mono (hE ▸ first_2 _ K0.out K1.out trivial (fun _ => trivial)) ?_); rintro e y3 ⟨rfl, hb3⟩; replace l0 := keep hb3 l0; replace l1 := keep hb3 l1; replace l2 := keep hb3 l2; replace BV := Lib.hid (belowT (show Below w.heap.size w _ by have Bq := BV.out; (repeat (first | with_reducible exact Below.refl _ _ | with_reducible assumption | with_reducible refine Below.alloc ?_ (by first | (simp; done) | (simp; omega) | omega) _ | with_reducible refine Below.setCell ?_ (by first | (simp; done) | (simp; omega) | omega) _ | with_reducible refine Below.drew ?_ | with_reducible refine below_drewN ?_ _))) hb3); clear hb3))
  go_ret2
  exact ⟨rfl, BV.out⟩
set_option maxRecDepth 100000 in
set_option maxHeartbeats 2000000 in
theorem turned_ok (ph inc ch : Int) (A : Option Addr) (n c : Nat) (g : Nat → Int × Int) (s : Int) (gF : Nat) (cb : Array Value) (hF : Fac s gF cb) (hE : fs2 (prgE ph inc ch) (smE n g) = 0) (w : World) (hA : GA w A n g) :
    Calls Try.prog 105 #[.agg #[.int .i64 ph, .int .i64 inc, .int .i64 ch], .slice A n c, .func (.func gF) #[] cb] w fun e w' => ∃ A' c', e = .returned (.tuple #[.slice A' n c', .int .i64 0]) ∧ Below w.heap.size w w' ∧ GA w' A' n (mxS s ph inc ch g) ∧ (A' = none → n = 0 ∧ c' = 0) := by
  obtain ⟨hp, hs⟩ := fs2_0 hE
  obtain ⟨hn, hg⟩ := sm_0 hs
  obtain ⟨heg0, hf⟩ := hF
  have heg : ∀ args w, (callFunc gF args).run Try.prog w = .ok (.enter gF args) w := heg0
  have HPC := Lib.hid (fun W => programCheck_chk ph inc ch W)
  have HSC := Lib.hid (fun W (hW : Below w.heap.size w W) => samplesCheck_chk A n c g W (by omega) (hA.bel hW))
  have HT := Lib.hid (fun (k : Nat) (hk : k < n) W => turnsAt_any ph inc ch k (prg_0 hp) (by omega) (by omega) W)
  have HA := Lib.hid hA
  have HG := Lib.hid hg
  have HFc := Lib.hid hf
  obtain ⟨i0, hi0, hz0, hz1, hz2⟩ := info_parts infoG
  clear hp hs hA hg hf heg0
  go_enter Try.func105, Try.ntmps105
  go_wp2_with (first
    | (go_at_call 99; (with_reducible refine Calls.mono (HPC.out _) ?_); rintro e y1 ⟨v0, rfl, hb1, g0, f0, rfl, hg0, hh0⟩; have BV := Lib.hid (belowT (show Below w.heap.size w _ by (repeat (first | with_reducible exact Below.refl _ _ | with_reducible assumption | with_reducible refine Below.alloc ?_ (by first | (simp; done) | (simp; omega) | omega) _ | with_reducible refine Below.setCell ?_ (by first | (simp; done) | (simp; omega) | omega) _ | with_reducible refine Below.drew ?_ | with_reducible refine below_drewN ?_ _))) hb1); have l0 := keep hb1 (b := w.heap.size) (o := 0) (v := .int .i64 ph) (by simp [go_sem]); have l1 := keep hb1 (b := w.heap.size) (o := 1) (v := .int .i64 inc) (by simp [go_sem]); have l2 := keep hb1 (b := w.heap.size) (o := 2) (v := .int .i64 ch) (by simp [go_sem]); have K0 := Lib.hid (show Chk True _ (.func (.func g0) #[] f0) y1 from ⟨g0, f0, rfl, hg0, hh0⟩); clear hg0 hh0; clear hb1)
    | (go_at_call 108; (with_reducible refine Calls.mono (HSC.out _ (by have Bq := BV.out; (repeat (first | with_reducible exact Below.refl _ _ | with_reducible assumption | with_reducible refine Below.alloc ?_ (by first | (simp; done) | (simp; omega) | omega) _ | with_reducible refine Below.setCell ?_ (by first | (simp; done) | (simp; omega) | omega) _ | with_reducible refine Below.drew ?_ | with_reducible refine below_drewN ?_ _)))) ?_); rintro e y2 ⟨v1, rfl, hb2, g1, f1, rfl, hg1, hh1⟩; replace l0 := keep hb2 l0; replace l1 := keep hb2 l1; replace l2 := keep hb2 l2; replace BV := Lib.hid (belowT (show Below w.heap.size w _ by have Bq := BV.out; (repeat (first | with_reducible exact Below.refl _ _ | with_reducible assumption | with_reducible refine Below.alloc ?_ (by first | (simp; done) | (simp; omega) | omega) _ | with_reducible refine Below.setCell ?_ (by first | (simp; done) | (simp; omega) | omega) _ | with_reducible refine Below.drew ?_ | with_reducible refine below_drewN ?_ _))) hb2); have K1 := Lib.hid (show Chk True _ (.func (.func g1) #[] f1) y2 from ⟨g1, f1, rfl, hg1, hh1⟩); replace K0 := Lib.hid (K0.out.on hb2); clear hg1 hh1; clear hb2)
    | (go_at_call 87; (with_reducible refine Calls.mono (hE ▸ first_2 _ K0.out K1.out trivial (fun _ => trivial)) ?_); rintro e y3 ⟨rfl, hb3⟩; replace l0 := keep hb3 l0; replace l1 := keep hb3 l1; replace l2 := keep hb3 l2; replace BV := Lib.hid (belowT (show Below w.heap.size w _ by have Bq := BV.out; (repeat (first | with_reducible exact Below.refl _ _ | with_reducible assumption | with_reducible refine Below.alloc ?_ (by first | (simp; done) | (simp; omega) | omega) _ | with_reducible refine Below.setCell ?_ (by first | (simp; done) | (simp; omega) | omega) _ | with_reducible refine Below.drew ?_ | with_reducible refine below_drewN ?_ _))) hb3); clear hb3)
    | (at_make; go_loud (refine wpList_make_full _ rfl _ _ 42 rfl (y3.heap.size) 23 i0 _ 2 undGs hi0 hz0 hz1 .i64 .i64 n n n rfl rfl rfl rfl (by rw [hz2]; omega) (by unfold maxLen; omega) (by simp) ?_; intro wm hown hgrow; have hbm := below_none hgrow; have HM := Lib.hid (made_im2 hown); have BM := Lib.hid (belowT BV.out hbm); have hGw := lt_of l0; have e0 := keep hbm l0; have e1 := keep hbm l1; have e2 := keep hbm l2; clear hown hgrow hbm)))
  generalize y3.heap.size = G at *
  clear HPC HSC K0 K1
  go_loopw [26] (fun s26 wr => ∃ k : Nat, k ≤ n ∧ s26 = .int .i64 k ∧ Hid (Below w.heap.size w wr) ∧ (wr.cell? ⟨w.heap.size, 0, none⟩ = some (.int .i64 ph) ∧ wr.cell? ⟨w.heap.size, 1, none⟩ = some (.int .i64 inc) ∧ wr.cell? ⟨w.heap.size, 2, none⟩ = some (.int .i64 ch)) ∧ Hid (IM wr G (n * 2) (upto (k * 2) (flt (mxS s ph inc ch g))))) (fun i _ => n - (intOf i).toNat)
  case atStart => exact ⟨0, Nat.zero_le _, rfl, BM.out, ⟨e0, e1, e2⟩, HM.out.same (fun i _ => by simp [upto])⟩
  case round =>
    obtain ⟨k, hk, rfl, HB, ⟨l0', l1', l2'⟩, HI⟩ := hrel
    by_cases hlt : k < n
    · obtain ⟨bA, oA, rfl, hA2⟩ := HA.out (by omega)
      have x0 := keep HB.out (hA2 k hlt).1
      have x1 := keep HB.out (hA2 k hlt).2
      have hgk := HG.out k hlt
      have hT := trn_bd ph inc ch k
      have HT2 := Lib.hid (HT.out k hlt)
      have HC := Lib.hid (fun W => complexOf_any (g k).1 (g k).2 W)
      have HFm := Lib.hid (fun W => HFc.out (trn ph inc ch k) W (by omega) (by omega))
      obtain ⟨⟨⟨t1, t2⟩, t3, t4⟩, ⟨p1, p2⟩, ⟨p3, p4⟩, ⟨p5, p6⟩, p7, p8⟩ := rt_bd (m := s * trn ph inc ch k) hgk.1.1 hgk.1.2 hgk.2.1 hgk.2.2
      have HX := Lib.hid (fi_of (x := (g k).1) (by omega) (by omega))
      have HY := Lib.hid (fi_of (x := (g k).2) (by omega) (by omega))
      have HMU := Lib.hid (fun (c d : Nat) (h1 : FI .f64 c (qRe (s * trn ph inc ch k))) (h2 : FI .f64 d (qIm (s * trn ph inc ch k))) => (show ∃ re im, cMulBits (fI (g k).1) (fI (g k).2) c d = some (re, im) ∧ FI .f64 re (mxS s ph inc ch g k).1 ∧ FI .f64 im (mxS s ph inc ch g k).2 from cmul_bits HX.out HY.out h1 h2 (by rw [fmx64]; omega) (by rw [fmx64]; omega) (by rw [fmx64]; omega) (by rw [fmx64]; omega) (by rw [fmx64]; unfold rtR at t1 t2; omega) (by rw [fmx64]; unfold rtI at t3 t4; omega)))
      have HGO := Lib.hid (fun (a b : Nat) (h1 : FI .f64 a (mxS s ph inc ch g k).1) (h2 : FI .f64 b (mxS s ph inc ch g k).2) W => gaussOf_any a b _ _ h1 h2 (by show _ ≤ rtR (s * trn ph inc ch k) (g k); omega) (by show rtR (s * trn ph inc ch k) (g k) ≤ _; omega) (by show _ ≤ rtI (s * trn ph inc ch k) (g k); omega) (by show rtI (s * trn ph inc ch k) (g k) ≤ _; omega) W)
      have HF0 : Hid (flt (mxS s ph inc ch g) (k * 2) = (mxS s ph inc ch g k).1 ∧ flt (mxS s ph inc ch g) (k * 2 + 1) = (mxS s ph inc ch g k).2) := Lib.hid ⟨flt_0 _ k, flt_1 _ k⟩
      have g1 : (0 : Int) ≤ (k : Int) := by omega
      have g2 : (k : Int) < (n : Int) := by omega
      have hwl := lt_of l0'
      have hI0 := lt_of (HI.out.2 (k * 2) (by omega)).1
      clear hA2 hgk hT t1 t2 t3 t4 p1 p2 p3 p4 p5 p6 p7 p8 HFc HT HA
      generalize hgx : (g k).1 = gx at *
      generalize hgy : (g k).2 = gy at *
      generalize trn ph inc ch k = tr at *
      generalize hU : (mxS s ph inc ch g k).1 = U at *
      generalize hZ : (mxS s ph inc ch g k).2 = Z at *
      go_upto_region 8 with fail
      have hbw : Below wr.heap.size wr (wr.alloc (.cells #[.int .i64 gx, .int .i64 gy] 23)) := (Below.refl _ _).alloc (Nat.le_refl _) _
      have p0 : (wr.alloc (.cells #[.int .i64 gx, .int .i64 gy] 23)).cell? ⟨wr.heap.size, 0, none⟩ = some (.int .i64 gx) := by simp [go_sem]
      have p1 : (wr.alloc (.cells #[.int .i64 gx, .int .i64 gy] 23)).cell? ⟨wr.heap.size, 1, none⟩ = some (.int .i64 gy) := by simp [go_sem]
      replace l0' := keep hbw l0'
      replace l1' := keep hbw l1'
      replace l2' := keep hbw l2'
      replace HI := Lib.hid (HI.out.on hbw)
      replace HB := Lib.hid (belowT HB.out hbw)
      generalize (wr.alloc (.cells #[.int .i64 gx, .int .i64 gy] 23)) = v0 at *
      refine wp_region_last [mpEq (.slice (some ⟨G, 0, none⟩) n n), mpEq (.int .i64 k), mpEq (.agg #[.int .i64 gx, .int .i64 gy]), mpEq (.complex .f64 (fI gx) (fI gy)), mpEq (.func (.func gF) #[] cb), mpEq (.agg #[.int .i64 ph, .int .i64 inc, .int .i64 ch]), mpEq (.int .i64 k), mpEq (.int .i64 tr), mpFI (qRe (s * tr)) (qIm (s * tr)), mpFI U Z, mpEq (.agg #[.int .i64 U, .int .i64 Z]), mpEq (.pointer (some ⟨G, k * 2, none⟩))] 12 pd0 (by kernel_rfl) (by kernel_rfl) (by kernel_rfl) rfl (by kernel_rfl) (
            allOps_cons (fun _ a' w' hb hs hd => rg_op fun K hK => by
          have e0 := (hs.get 9 (by kernel_rfl)).trans (show _ = .slice (some ⟨G, 0, none⟩) n n from rfl)
          have ec : ∀ v, a'.eval (.const v) = v := fun _ => rfl
          clear hs hd
          unfold Oper.wp
          generalize a'.eval = ρ at e0 ec ⊢
          simp [go_sem, e0]
          exact hK _ _ (Below.refl _ _) rfl) <|
            allOps_cons (fun _ a' w' hb hs hd => rg_op fun K hK => by
          have e0 := (hs.get 10 (by kernel_rfl)).trans (show _ = .int .i64 k from rfl)
          have ec : ∀ v, a'.eval (.const v) = v := fun _ => rfl
          clear hs hd
          unfold Oper.wp
          generalize a'.eval = ρ at e0 ec ⊢
          simp [go_sem, e0]
          exact hK _ _ (Below.refl _ _) rfl) <|
            allOps_cons (fun _ a' w' hb hs hd => rg_op fun K hK => by
          have e0 := (hs.get 11 (by kernel_rfl)).trans (show _ = .pointer (some ⟨wr.heap.size, 0, none⟩) from rfl)
          have ec : ∀ v, a'.eval (.const v) = v := fun _ => rfl
          have c0 := keep hb p0
          have c1 := keep hb p1
          clear hs hd
          unfold Oper.wp
          generalize a'.eval = ρ at e0 ec ⊢
          simp [go_sem, e0, c0, c1]
          exact hK _ _ (Below.refl _ _) rfl) <|
            allOps_cons (fun _ a' w' hb hs hd => by
          exact rg_fn (φ := (mpEq (.complex .f64 (fI gx) (fI gy))).p) (vs := #[.agg #[.int .i64 gx, .int .i64 gy]]) rfl (enters_of Try.func143 (by kernel_rfl) rfl) (by simp [(show a'.eval (.tmp 33) = .agg #[.int .i64 gx, .int .i64 gy] from hd.get 2 33 (by kernel_rfl) (by kernel_rfl))]) ((HC.out w').mono (by rintro e w1 ⟨rfl, h1⟩; exact ⟨_, rfl, h1, rfl⟩))) <|
            allOps_cons (fun _ a' w' hb hs hd => rg_op fun K hK => by
          have e0 := (hs.get 2 (by kernel_rfl)).trans (show _ = .func (.func gF) #[] cb from rfl)
          have ec : ∀ v, a'.eval (.const v) = v := fun _ => rfl
          clear hs hd
          unfold Oper.wp
          generalize a'.eval = ρ at e0 ec ⊢
          simp [go_sem, e0]
          exact hK _ _ (Below.refl _ _) rfl) <|
            allOps_cons (fun _ a' w' hb hs hd => rg_op fun K hK => by
          have e0 := (hs.get 3 (by kernel_rfl)).trans (show _ = .pointer (some ⟨w.heap.size, 0, none⟩) from rfl)
          have ec : ∀ v, a'.eval (.const v) = v := fun _ => rfl
          have c0 := keep hb l0'
          have c1 := keep hb l1'
          have c2 := keep hb l2'
          clear hs hd
          unfold Oper.wp
          generalize a'.eval = ρ at e0 ec ⊢
          simp [go_sem, e0, c0, c1, c2]
          exact hK _ _ (Below.refl _ _) rfl) <|
            allOps_cons (fun _ a' w' hb hs hd => rg_op fun K hK => by
          have e0 := (hs.get 10 (by kernel_rfl)).trans (show _ = .int .i64 k from rfl)
          have ec : ∀ v, a'.eval (.const v) = v := fun _ => rfl
          clear hs hd
          unfold Oper.wp
          generalize a'.eval = ρ at e0 ec ⊢
          simp [go_sem, e0]
          exact hK _ _ (Below.refl _ _) rfl) <|
            allOps_cons (fun _ a' w' hb hs hd => by
          exact rg_fn (φ := (mpEq (.int .i64 tr)).p) (vs := #[.agg #[.int .i64 ph, .int .i64 inc, .int .i64 ch], .int .i64 k]) rfl (enters_of Try.func103 (by kernel_rfl) rfl) (by simp [(show a'.eval (.tmp 36) = .agg #[.int .i64 ph, .int .i64 inc, .int .i64 ch] from hd.get 5 36 (by kernel_rfl) (by kernel_rfl)), (show a'.eval (.tmp 37) = .int .i64 k from hd.get 6 37 (by kernel_rfl) (by kernel_rfl))]) ((HT2.out w').mono (by rintro e w1 ⟨rfl, h1⟩; exact ⟨_, rfl, h1, rfl⟩))) <|
            allOps_cons (fun _ a' w' hb hs hd => by
          have e35 := (show a'.eval (.tmp 35) = .func (.func gF) #[] cb from hd.get 4 35 (by kernel_rfl) (by kernel_rfl))
          have e38 := (show a'.eval (.tmp 38) = .int .i64 tr from hd.get 7 38 (by kernel_rfl) (by kernel_rfl))
          have hcall : Calls Try.prog gF (#[.int .i64 tr] ++ cb) w' fun e w'' => ∃ v, e = .returned v ∧ Below w'.heap.size w' w'' ∧ (mpFI (qRe (s * tr)) (qIm (s * tr))).p v w'' := (HFm.out w').mono (fun e w1 h => (by obtain ⟨c, d, he, hc, hd2, h1⟩ := h; exact ⟨_, he, h1, ⟨c, d, rfl, hc, hd2⟩⟩))
          have hvs : #[] ++ #[Operand.tmp 38].map a'.eval ++ cb = #[.int .i64 tr] ++ cb := by simp [e38]
          clear hs hd
          exact rg_fn e35 heg hvs hcall) <|
            allOps_cons (fun _ a' w' hb hs hd => rg_op fun K hK => by
          have e0 := (show a'.eval (.tmp 34) = .complex .f64 (fI gx) (fI gy) from hd.get 3 34 (by kernel_rfl) (by kernel_rfl))
          obtain ⟨cc, dd, e1, hc, hd'⟩ := (show (mpFI (qRe (s * tr)) (qIm (s * tr))).p (a'.eval (.tmp 39)) w' from hd.get 8 39 (by kernel_rfl) (by kernel_rfl))
          obtain ⟨mr, mi, hm1, hm2, hm3⟩ := HMU.out cc dd hc hd'
          have hmul := run_complex_mul (P := Try.prog) w' 140 _ _ cc dd mr mi hm1
          clear hs hd hc hd'
          unfold Oper.wp
          generalize a'.eval = ρ at e0 e1 ⊢
          simp [go_sem, e0, e1, hmul]
          exact hK _ _ (Below.refl _ _) ⟨_, _, rfl, hm2, hm3⟩) <|
            allOps_cons (fun _ a' w' hb hs hd => by
          obtain ⟨mr, mi, e1, h2, h3⟩ := (show (mpFI U Z).p (a'.eval (.tmp 40)) w' from hd.get 9 40 (by kernel_rfl) (by kernel_rfl))
          exact rg_fn (φ := (mpEq (.agg #[.int .i64 U, .int .i64 Z])).p) (vs := #[.complex .f64 mr mi]) rfl (enters_of Try.func142 (by kernel_rfl) rfl) (by simp [e1]) ((HGO.out mr mi h2 h3 w').mono (by rintro e w1 ⟨rfl, h1⟩; exact ⟨_, rfl, h1, rfl⟩))) <|
            allOps_cons (fun _ a' w' hb hs hd => rg_op fun K hK => by
          have e0 := (show a'.eval (.tmp 31) = .slice (some ⟨G, 0, none⟩) n n from hd.get 0 31 (by kernel_rfl) (by kernel_rfl))
          have e1 := (show a'.eval (.tmp 32) = .int .i64 k from hd.get 1 32 (by kernel_rfl) (by kernel_rfl))
          have ec : ∀ v, a'.eval (.const v) = v := fun _ => rfl
          clear hs hd
          unfold Oper.wp
          generalize a'.eval = ρ at e0 e1 ec ⊢
          simp [go_sem, e0, e1, g1, g2]
          exact hK _ _ (Below.refl _ _) rfl) <| allOps_cons (fun h => absurd rfl h) <| allOps_nil) (fun V v1 hv1 hall K hK => ?_)
      have h41 : V 41 = .agg #[.int .i64 U, .int .i64 Z] := hall.get 10 rfl (by decide)
      have h42 : V 42 = .pointer (some ⟨G, k * 2, none⟩) := hall.get 11 rfl (by decide)
      clear hall
      have HI1 := Lib.hid (HI.out.on hv1)
      have q0 := keep hv1 l0'
      have q1 := keep hv1 l1'
      have q2 := keep hv1 l2'
      refine op_stG (q := G) (o := k * 2) rfl h42 h41 (HI1.out.2 (k * 2) (by omega)).1 (HI1.out.2 (k * 2 + 1) (by omega)).1 (HI1.out.2 (k * 2) (by omega)).2 (HI1.out.2 (k * 2 + 1) (by omega)).2 ?_
      refine hK _ _ ?_
      simp only [pd0, maskPut, Nat.reduceAdd]
      have HB1 := Lib.hid (belowT HB.out hv1)
      clear h41 h42 hK hv1 hbw
      go_wp2
      go_roundw
      case rel =>
        refine ⟨k + 1, by omega, by go_num, (HB1.out.setCell (by show w.heap.size ≤ G; omega) _).setCell (by show w.heap.size ≤ G; omega) _, ⟨?_, ?_, ?_⟩, ((HI1.out.set (k := k * 2) (by omega) U).set (k := k * 2 + 1) (by omega) Z).same (fun i _ => ?_)⟩
        · exact (World.cell?_setCell_far _ _ _ _ (by show G ≠ w.heap.size; omega)).trans ((World.cell?_setCell_far _ _ _ _ (by show G ≠ w.heap.size; omega)).trans q0)
        · exact (World.cell?_setCell_far _ _ _ _ (by show G ≠ w.heap.size; omega)).trans ((World.cell?_setCell_far _ _ _ _ (by show G ≠ w.heap.size; omega)).trans q1)
        · exact (World.cell?_setCell_far _ _ _ _ (by show G ≠ w.heap.size; omega)).trans ((World.cell?_setCell_far _ _ _ _ (by show G ≠ w.heap.size; omega)).trans q2)
        · rw [← bn_step (flt (mxS s ph inc ch g)) k i, HF0.out.1, HF0.out.2]
      case measure => simp [intOf]; omega
    · obtain rfl : k = n := by omega
      have HGA := Lib.hid ((HI.out.same (g := flt (mxS s ph inc ch g)) fun i hi => by unfold upto; rw [if_pos hi]).ga)
      go_wp2
      go_ret2
      exact ⟨_, _, rfl, HB.out, HGA.out, fun h => by cases h⟩
theorem fac_unmixed : Fac 1 107 #[] := ⟨(enters_of Try.func107 (by kernel_rfl) rfl), fun m W m0 m1 => by
  rw [Int.one_mul]
  exact quarterTurns_any m (by omega) (by omega) W⟩
set_option maxRecDepth 100000 in
set_option maxHeartbeats 800000 in
theorem mixed1_any (m : Int) (w : World) (m0 : 0 ≤ m) (m1 : m ≤ 3) : Calls Try.prog 106 #[.int .i64 m] w fun e w' => ∃ c d, e = .returned (.complex .f64 c d) ∧ FI .f64 c (qRe (-m)) ∧ FI .f64 d (qIm (-m)) ∧ Below w.heap.size w w' := by
  have HQ := Lib.hid (fun W => quarterTurns_any (-m) (by omega) (by omega) W)
  have wq : IntKind.i64.wrap (-m) = -m := IntWalk.i64_in _ (by omega)
  go_enter Try.func106, Try.ntmps106
  go_wp2_with (go_at_call 107; (with_reducible refine Calls.mono (HQ.out _) ?_); rintro e w2 ⟨cc, dd, rfl, hc, hd, hb2⟩; have H2 := Lib.hid (And.intro hc (And.intro hd hb2)); clear hc hd hb2)
  go_ret
  exact ⟨cc, dd, rfl, H2.out.1, H2.out.2.1, H2.out.2.2⟩
theorem fac_mixed : Fac (-1) 106 #[] := ⟨(enters_of Try.func106 (by kernel_rfl) rfl), fun m W m0 m1 => by
  rw [show (-1 : Int) * m = -m by omega]
  exact mixed1_any m W m0 m1⟩
/-- the error of a program and samples -/
def mxE (ph inc ch : Int) (n : Nat) (g : Nat → Int × Int) : Int := fs2 (prgE ph inc ch) (smE n g)
set_option maxRecDepth 100000 in
set_option maxHeartbeats 800000 in
theorem mixedS_err (ph inc ch : Int) (A : Option Addr) (n c : Nat) (g : Nat → Int × Int) (E : Int) (hE : mxE ph inc ch n g = E) (h0 : E ≠ 0) (w : World) (hn : n ≤ 1000000000) (hA : GA w A n g) :
    Calls Try.prog 48 #[.agg #[.int .i64 ph, .int .i64 inc, .int .i64 ch], .slice A n c] w fun e w' => e = .returned (.tuple #[.slice none 0 0, .int .i64 E]) ∧ Below w.heap.size w w' := by
  have HT := Lib.hid (fun W (hW : Below w.heap.size w W) => turned_err ph inc ch A n c g 106 #[] E hE h0 W hn (hA.bel hW))
  clear hA hE h0
  go_enter Try.func48, Try.ntmps48
  go_wp2_with (go_at_call 105; (with_reducible refine Calls.mono (HT.out _ (by (repeat (first | with_reducible exact Below.refl _ _ | with_reducible assumption | with_reducible refine Below.alloc ?_ (by first | (simp; done) | (simp; omega) | omega) _ | with_reducible refine Below.setCell ?_ (by first | (simp; done) | (simp; omega) | omega) _ | with_reducible refine Below.drew ?_ | with_reducible refine below_drewN ?_ _)))) ?_); rintro e w1 ⟨rfl, hb1⟩; have B1 := Lib.hid (belowT (show Below w.heap.size w _ by (repeat (first | with_reducible exact Below.refl _ _ | with_reducible assumption | with_reducible refine Below.alloc ?_ (by first | (simp; done) | (simp; omega) | omega) _ | with_reducible refine Below.setCell ?_ (by first | (simp; done) | (simp; omega) | omega) _ | with_reducible refine Below.drew ?_ | with_reducible refine below_drewN ?_ _))) hb1); clear hb1)
  go_ret2
  exact ⟨rfl, B1.out⟩
set_option maxRecDepth 100000 in
set_option maxHeartbeats 800000 in
theorem mixedS_ok (ph inc ch : Int) (A : Option Addr) (n c : Nat) (g : Nat → Int × Int) (hE : mxE ph inc ch n g = 0) (w : World) (hA : GA w A n g) :
    Calls Try.prog 48 #[.agg #[.int .i64 ph, .int .i64 inc, .int .i64 ch], .slice A n c] w fun e w' => ∃ A' c', e = .returned (.tuple #[.slice A' n c', .int .i64 0]) ∧ Below w.heap.size w w' ∧ GA w' A' n (mxS (-1) ph inc ch g) ∧ (A' = none → n = 0 ∧ c' = 0) := by
  have HT := Lib.hid (fun W (hW : Below w.heap.size w W) => turned_ok ph inc ch A n c g (-1) 106 #[] fac_mixed hE W (hA.bel hW))
  clear hA hE
  go_enter Try.func48, Try.ntmps48
  go_wp2_with (go_at_call 105; (with_reducible refine Calls.mono (HT.out _ (by (repeat (first | with_reducible exact Below.refl _ _ | with_reducible assumption | with_reducible refine Below.alloc ?_ (by first | (simp; done) | (simp; omega) | omega) _ | with_reducible refine Below.setCell ?_ (by first | (simp; done) | (simp; omega) | omega) _ | with_reducible refine Below.drew ?_ | with_reducible refine below_drewN ?_ _)))) ?_); rintro e w1 ⟨A', c', rfl, hb1, hG1, hN1⟩; have B1 := Lib.hid (belowT (show Below w.heap.size w _ by (repeat (first | with_reducible exact Below.refl _ _ | with_reducible assumption | with_reducible refine Below.alloc ?_ (by first | (simp; done) | (simp; omega) | omega) _ | with_reducible refine Below.setCell ?_ (by first | (simp; done) | (simp; omega) | omega) _ | with_reducible refine Below.drew ?_ | with_reducible refine below_drewN ?_ _))) hb1); have H1 := Lib.hid (And.intro hG1 hN1); clear hb1 hG1 hN1)
  go_ret2
  exact ⟨A', c', rfl, B1.out, H1.out⟩
set_option maxRecDepth 100000 in
set_option maxHeartbeats 800000 in
theorem unmixedS_err (ph inc ch : Int) (A : Option Addr) (n c : Nat) (g : Nat → Int × Int) (E : Int) (hE : mxE ph inc ch n g = E) (h0 : E ≠ 0) (w : World) (hn : n ≤ 1000000000) (hA : GA w A n g) :
    Calls Try.prog 50 #[.agg #[.int .i64 ph, .int .i64 inc, .int .i64 ch], .slice A n c] w fun e w' => e = .returned (.tuple #[.slice none 0 0, .int .i64 E]) ∧ Below w.heap.size w w' := by
  have HT := Lib.hid (fun W (hW : Below w.heap.size w W) => turned_err ph inc ch A n c g 107 #[] E hE h0 W hn (hA.bel hW))
  clear hA hE h0
  go_enter Try.func50, Try.ntmps50
  go_wp2_with (go_at_call 105; (with_reducible refine Calls.mono (HT.out _ (by (repeat (first | with_reducible exact Below.refl _ _ | with_reducible assumption | with_reducible refine Below.alloc ?_ (by first | (simp; done) | (simp; omega) | omega) _ | with_reducible refine Below.setCell ?_ (by first | (simp; done) | (simp; omega) | omega) _ | with_reducible refine Below.drew ?_ | with_reducible refine below_drewN ?_ _)))) ?_); rintro e w1 ⟨rfl, hb1⟩; have B1 := Lib.hid (belowT (show Below w.heap.size w _ by (repeat (first | with_reducible exact Below.refl _ _ | with_reducible assumption | with_reducible refine Below.alloc ?_ (by first | (simp; done) | (simp; omega) | omega) _ | with_reducible refine Below.setCell ?_ (by first | (simp; done) | (simp; omega) | omega) _ | with_reducible refine Below.drew ?_ | with_reducible refine below_drewN ?_ _))) hb1); clear hb1)
  go_ret2
  exact ⟨rfl, B1.out⟩
set_option maxRecDepth 100000 in
set_option maxHeartbeats 800000 in
theorem unmixedS_ok (ph inc ch : Int) (A : Option Addr) (n c : Nat) (g : Nat → Int × Int) (hE : mxE ph inc ch n g = 0) (w : World) (hA : GA w A n g) :
    Calls Try.prog 50 #[.agg #[.int .i64 ph, .int .i64 inc, .int .i64 ch], .slice A n c] w fun e w' => ∃ A' c', e = .returned (.tuple #[.slice A' n c', .int .i64 0]) ∧ Below w.heap.size w w' ∧ GA w' A' n (mxS 1 ph inc ch g) ∧ (A' = none → n = 0 ∧ c' = 0) := by
  have HT := Lib.hid (fun W (hW : Below w.heap.size w W) => turned_ok ph inc ch A n c g 1 107 #[] fac_unmixed hE W (hA.bel hW))
  clear hA hE
  go_enter Try.func50, Try.ntmps50
  go_wp2_with (go_at_call 105; (with_reducible refine Calls.mono (HT.out _ (by (repeat (first | with_reducible exact Below.refl _ _ | with_reducible assumption | with_reducible refine Below.alloc ?_ (by first | (simp; done) | (simp; omega) | omega) _ | with_reducible refine Below.setCell ?_ (by first | (simp; done) | (simp; omega) | omega) _ | with_reducible refine Below.drew ?_ | with_reducible refine below_drewN ?_ _)))) ?_); rintro e w1 ⟨A', c', rfl, hb1, hG1, hN1⟩; have B1 := Lib.hid (belowT (show Below w.heap.size w _ by (repeat (first | with_reducible exact Below.refl _ _ | with_reducible assumption | with_reducible refine Below.alloc ?_ (by first | (simp; done) | (simp; omega) | omega) _ | with_reducible refine Below.setCell ?_ (by first | (simp; done) | (simp; omega) | omega) _ | with_reducible refine Below.drew ?_ | with_reducible refine below_drewN ?_ _))) hb1); have H1 := Lib.hid (And.intro hG1 hN1); clear hb1 hG1 hN1)
  go_ret2
  exact ⟨A', c', rfl, B1.out, H1.out⟩
end Go.Proofs.Ytpkacfgmojblbaa
