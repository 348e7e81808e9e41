/- Helpers: the law SampleHidden. No condition but the hypotheses that each theorem names. -/
import Derived.Test.YtpkacfgmojblbaaB23
namespace Go.Proofs.Ytpkacfgmojblbaa
open Go.RowKit
attribute [local go_sem] old1 fro1 old2 fro2 old3 fro3 old4 fro4 old5 fro5 old6 fro6 old7 fro7 old8 fro8 old9 fro9 old10 fro10 old11 fro11 old12 fro12
def pp0 : List Bool := [false, false, false, false, false, false, false, false, false, true, true, false, false, false, false, false, false, false, false, false, false, false, false, false, false, false, false, false, false, false, false, false, false, false, false, false, false, false, false, false, false, false, false, false, false, false, false, false, false, false, false, false, false, false, false, false, false, false, false, false, true, true, true, true, true, true, true, false, false, false, false, false, false, false, false, false, false, false, false, false, false, false, false, false, false, false, false, false, false, false, false, false, false, false, false, false, false, false, false, false, false, false, false, false, false, false, false, false, false, false, false, false, false, false, false, false, false, false, false, false, false, false, false, false, false, false, false, false]
def pp1 : List Bool := [false, false, false, false, false, false, false, false, false, false, false, false, false, false, false, false, false, false, false, false, false, false, false, false, false, false, false, false, false, false, false, false, false, false, false, false, false, false, false, false, false, false, false, false, false, false, false, false, false, false, false, false, false, false, false, false, false, false, false, false, false, false, false, false, false, false, false, false, false, false, false, false, false, false, false, false, false, false, false, false, false, false, false, false, false, false, false, true, true, true, true, true, true, true, true, true, true, true, true, true, true, true, true, true, true, true, true, true, true, true, false, false, false, false, false, false, false, false, false, false, false, false, false, false, false, false, false, false]
theorem sm_bd {n : Nat} {g : Nat → Int × Int} (hn : n ≤ 400) (h : ∀ i, i < n → (-2000 ≤ (g i).1 ∧ (g i).1 ≤ 2000) ∧ -2000 ≤ (g i).2 ∧ (g i).2 ≤ 2000) : smE n g = 0 := by
  unfold smE atEG
  rw [if_pos (by omega)]
  have key : ∀ m i, i + m ≤ n → ferr (fun i => ptE 2000 (g i)) i m = 0 := by
    intro m
    induction m with
    | zero => intro i _; rfl
    | succ m ih =>
      intro i hi
      obtain ⟨⟨a, b⟩, c, d⟩ := h i (by omega)
      have e : ptE 2000 (g i) = 0 := by
        unfold ptE rgE
        rw [wi_t.2 ⟨a, b⟩, wi_t.2 ⟨c, d⟩]
        rfl
      simp only [ferr]
      rw [if_pos e]
      exact ih (i + 1) (by omega)
  exact key n 0 (by omega)
theorem mx_bd {s ph inc ch M : Int} {g : Nat → Int × Int} {n : Nat} (h : ∀ i, i < n → (-M ≤ (g i).1 ∧ (g i).1 ≤ M) ∧ -M ≤ (g i).2 ∧ (g i).2 ≤ M) : ∀ i, i < n → (-M ≤ (mxS s ph inc ch g i).1 ∧ (mxS s ph inc ch g i).1 ≤ M) ∧ -M ≤ (mxS s ph inc ch g i).2 ∧ (mxS s ph inc ch g i).2 ≤ M := fun i hi => by
  obtain ⟨⟨a, b⟩, c, d⟩ := h i hi
  exact (rt_bd (m := s * trn ph inc ch i) a b c d).1
theorem pt_bd {m x y : Int} (h : (-m ≤ x ∧ x ≤ m) ∧ -m ≤ y ∧ y ≤ m) : ptE m (x, y) = 0 := by
  unfold ptE rgE
  rw [wi_t.2 h.1, wi_t.2 h.2]
  rfl
set_option maxRecDepth 100000 in
set_option maxHeartbeats 2000000 in
theorem sh_a (ph inc ch : Int) (A : Option Addr) (n c : Nat) (_ : Nat → Int × Int) (a : Int) (w : World) (hw : wi a 0 2000 = false) :
    Calls Try.prog 14 #[.agg #[.int .i64 ph, .int .i64 inc, .int .i64 ch], .slice A n c, .int .i64 a] w fun e w' => e = .returned (.bool true) ∧ Below w.heap.size w w' := by
  have hE : mnE a n = 2 := by
    unfold mnE fs2 rgE
    rw [hw]
    rfl
  have HMN := Lib.hid (fun W => minimumNorm_any a n W)
  rw [hE, if_neg (by decide)] at HMN
  clear hE
  go_enter Try.func14, Try.ntmps14
  go_wp2_with (first
    | (go_at_call 17; (with_reducible refine Calls.mono (awake_any _) ?_); rintro e yx ⟨rfl, hbx⟩; (try replace l0 := keep hbx l0); (try replace l1 := keep hbx l1); (try replace l2 := keep hbx l2); (try replace T9 := Lib.hid (T9.out.bel hbx)); (first | replace BV := Lib.hid (belowT (show Below w.heap.size w _ by have Bq := BV.out; have Bz := Bq.size; (repeat (first | with_reducible exact Below.refl _ _ | with_reducible assumption | with_reducible refine Below.alloc ?_ (by first | (simp; done) | (simp; omega) | omega) _ | with_reducible refine Below.setCell ?_ (by first | (simp; done) | (simp; omega) | omega) _ | with_reducible refine Below.drew ?_ | with_reducible refine below_drewN ?_ _))) hbx) | have BV := Lib.hid (belowT (show Below w.heap.size w _ by (repeat (first | with_reducible exact Below.refl _ _ | with_reducible assumption | with_reducible refine Below.alloc ?_ (by first | (simp; done) | (simp; omega) | omega) _ | with_reducible refine Below.setCell ?_ (by first | (simp; done) | (simp; omega) | omega) _ | with_reducible refine Below.drew ?_ | with_reducible refine below_drewN ?_ _))) hbx)); have l0 := keep hbx (b := w.heap.size) (o := 0) (v := .int .i64 ph) (by simp [go_sem]); have l1 := keep hbx (b := w.heap.size) (o := 1) (v := .int .i64 inc) (by simp [go_sem]); have l2 := keep hbx (b := w.heap.size) (o := 2) (v := .int .i64 ch) (by simp [go_sem]); clear hbx)
    | (go_at_call 80; (with_reducible refine Calls.mono (HMN.out _) ?_); rintro e yx ⟨rfl, hbx⟩; (try replace l0 := keep hbx l0); (try replace l1 := keep hbx l1); (try replace l2 := keep hbx l2); (try replace T9 := Lib.hid (T9.out.bel hbx)); (first | replace BV := Lib.hid (belowT (show Below w.heap.size w _ by have Bq := BV.out; have Bz := Bq.size; (repeat (first | with_reducible exact Below.refl _ _ | with_reducible assumption | with_reducible refine Below.alloc ?_ (by first | (simp; done) | (simp; omega) | omega) _ | with_reducible refine Below.setCell ?_ (by first | (simp; done) | (simp; omega) | omega) _ | with_reducible refine Below.drew ?_ | with_reducible refine below_drewN ?_ _))) hbx) | have BV := Lib.hid (belowT (show Below w.heap.size w _ by (repeat (first | with_reducible exact Below.refl _ _ | with_reducible assumption | with_reducible refine Below.alloc ?_ (by first | (simp; done) | (simp; omega) | omega) _ | with_reducible refine Below.setCell ?_ (by first | (simp; done) | (simp; omega) | omega) _ | with_reducible refine Below.drew ?_ | with_reducible refine below_drewN ?_ _))) hbx)); clear hbx)
    | (go_at_call 21; (with_reducible refine Calls.mono (bwithin_any _ _ _ _) ?_); rintro e yx ⟨rfl, rfl⟩))
  go_ret
  exact ⟨rfl, BV.out⟩
set_option maxRecDepth 100000 in
set_option maxHeartbeats 2000000 in
theorem sh_b (ph inc ch : Int) (A : Option Addr) (n c : Nat) (_ : Nat → Int × Int) (a : Int) (w : World) (hw : wi a 0 2000 = true) (hn : 400 < n) :
    Calls Try.prog 14 #[.agg #[.int .i64 ph, .int .i64 inc, .int .i64 ch], .slice A n c, .int .i64 a] w fun e w' => e = .returned (.bool true) ∧ Below w.heap.size w w' := by
  have hE : mnE a n = 2 := by
    unfold mnE fs2 rgE
    rw [hw]
    rw [show wi (n : Int) 0 400 = false from wi_f.2 (by omega)]; rfl
  have HMN := Lib.hid (fun W => minimumNorm_any a n W)
  rw [hE, if_neg (by decide)] at HMN
  have hn2 : (n : Int) > 400 := by omega
  clear hE
  go_enter Try.func14, Try.ntmps14
  go_wp2_with (first
    | (go_at_call 17; (with_reducible refine Calls.mono (awake_any _) ?_); rintro e yx ⟨rfl, hbx⟩; (try replace l0 := keep hbx l0); (try replace l1 := keep hbx l1); (try replace l2 := keep hbx l2); (try replace T9 := Lib.hid (T9.out.bel hbx)); (first | replace BV := Lib.hid (belowT (show Below w.heap.size w _ by have Bq := BV.out; have Bz := Bq.size; (repeat (first | with_reducible exact Below.refl _ _ | with_reducible assumption | with_reducible refine Below.alloc ?_ (by first | (simp; done) | (simp; omega) | omega) _ | with_reducible refine Below.setCell ?_ (by first | (simp; done) | (simp; omega) | omega) _ | with_reducible refine Below.drew ?_ | with_reducible refine below_drewN ?_ _))) hbx) | have BV := Lib.hid (belowT (show Below w.heap.size w _ by (repeat (first | with_reducible exact Below.refl _ _ | with_reducible assumption | with_reducible refine Below.alloc ?_ (by first | (simp; done) | (simp; omega) | omega) _ | with_reducible refine Below.setCell ?_ (by first | (simp; done) | (simp; omega) | omega) _ | with_reducible refine Below.drew ?_ | with_reducible refine below_drewN ?_ _))) hbx)); have l0 := keep hbx (b := w.heap.size) (o := 0) (v := .int .i64 ph) (by simp [go_sem]); have l1 := keep hbx (b := w.heap.size) (o := 1) (v := .int .i64 inc) (by simp [go_sem]); have l2 := keep hbx (b := w.heap.size) (o := 2) (v := .int .i64 ch) (by simp [go_sem]); clear hbx)
    | (go_at_call 80; (with_reducible refine Calls.mono (HMN.out _) ?_); rintro e yx ⟨rfl, hbx⟩; (try replace l0 := keep hbx l0); (try replace l1 := keep hbx l1); (try replace l2 := keep hbx l2); (try replace T9 := Lib.hid (T9.out.bel hbx)); (first | replace BV := Lib.hid (belowT (show Below w.heap.size w _ by have Bq := BV.out; have Bz := Bq.size; (repeat (first | with_reducible exact Below.refl _ _ | with_reducible assumption | with_reducible refine Below.alloc ?_ (by first | (simp; done) | (simp; omega) | omega) _ | with_reducible refine Below.setCell ?_ (by first | (simp; done) | (simp; omega) | omega) _ | with_reducible refine Below.drew ?_ | with_reducible refine below_drewN ?_ _))) hbx) | have BV := Lib.hid (belowT (show Below w.heap.size w _ by (repeat (first | with_reducible exact Below.refl _ _ | with_reducible assumption | with_reducible refine Below.alloc ?_ (by first | (simp; done) | (simp; omega) | omega) _ | with_reducible refine Below.setCell ?_ (by first | (simp; done) | (simp; omega) | omega) _ | with_reducible refine Below.drew ?_ | with_reducible refine below_drewN ?_ _))) hbx)); clear hbx)
    | (go_at_call 21; (with_reducible refine Calls.mono (bwithin_any _ _ _ _) ?_); rintro e yx ⟨rfl, rfl⟩))
  go_ret
  exact ⟨rfl, BV.out⟩
set_option maxRecDepth 100000 in
set_option maxHeartbeats 2000000 in
theorem sh_c (ph inc ch : Int) (A : Option Addr) (n c : Nat) (_ : Nat → Int × Int) (a : Int) (w : World) (hw : wi a 0 2000 = true) (hn : n ≤ 400) (h60 : 60 < n) :
    Calls Try.prog 14 #[.agg #[.int .i64 ph, .int .i64 inc, .int .i64 ch], .slice A n c, .int .i64 a] w fun e w' => e = .returned (.bool true) ∧ Below w.heap.size w w' := by
  have hE : mnE a n = 0 := by
    unfold mnE fs2 rgE
    rw [hw, wi_t.2 (by omega)]
    rfl
  have hn2 : ¬ (n : Int) > 400 := by omega
  obtain ⟨a0, a1⟩ := wi_t.1 hw
  have HMN := Lib.hid (fun W => minimumNorm_any a n W)
  have HMR := Lib.hid (fun W => minimumNormR_any a n a0 a1 (by omega) (by omega) W)
  rw [hE, if_pos rfl] at HMN
  clear hE
  generalize mnV a n = mv at *
  have h61 : (n : Int) > 60 := by omega
  go_enter Try.func14, Try.ntmps14
  go_wp2_with (first
    | (go_at_call 17; (with_reducible refine Calls.mono (awake_any _) ?_); rintro e yx ⟨rfl, hbx⟩; (try replace l0 := keep hbx l0); (try replace l1 := keep hbx l1); (try replace l2 := keep hbx l2); (try replace T9 := Lib.hid (T9.out.bel hbx)); (first | replace BV := Lib.hid (belowT (show Below w.heap.size w _ by have Bq := BV.out; have Bz := Bq.size; (repeat (first | with_reducible exact Below.refl _ _ | with_reducible assumption | with_reducible refine Below.alloc ?_ (by first | (simp; done) | (simp; omega) | omega) _ | with_reducible refine Below.setCell ?_ (by first | (simp; done) | (simp; omega) | omega) _ | with_reducible refine Below.drew ?_ | with_reducible refine below_drewN ?_ _))) hbx) | have BV := Lib.hid (belowT (show Below w.heap.size w _ by (repeat (first | with_reducible exact Below.refl _ _ | with_reducible assumption | with_reducible refine Below.alloc ?_ (by first | (simp; done) | (simp; omega) | omega) _ | with_reducible refine Below.setCell ?_ (by first | (simp; done) | (simp; omega) | omega) _ | with_reducible refine Below.drew ?_ | with_reducible refine below_drewN ?_ _))) hbx)); have l0 := keep hbx (b := w.heap.size) (o := 0) (v := .int .i64 ph) (by simp [go_sem]); have l1 := keep hbx (b := w.heap.size) (o := 1) (v := .int .i64 inc) (by simp [go_sem]); have l2 := keep hbx (b := w.heap.size) (o := 2) (v := .int .i64 ch) (by simp [go_sem]); clear hbx)
    | (go_at_call 80; (with_reducible refine Calls.mono (HMN.out _) ?_); rintro e yx ⟨rfl, hbx⟩; (try replace l0 := keep hbx l0); (try replace l1 := keep hbx l1); (try replace l2 := keep hbx l2); (try replace T9 := Lib.hid (T9.out.bel hbx)); (first | replace BV := Lib.hid (belowT (show Below w.heap.size w _ by have Bq := BV.out; have Bz := Bq.size; (repeat (first | with_reducible exact Below.refl _ _ | with_reducible assumption | with_reducible refine Below.alloc ?_ (by first | (simp; done) | (simp; omega) | omega) _ | with_reducible refine Below.setCell ?_ (by first | (simp; done) | (simp; omega) | omega) _ | with_reducible refine Below.drew ?_ | with_reducible refine below_drewN ?_ _))) hbx) | have BV := Lib.hid (belowT (show Below w.heap.size w _ by (repeat (first | with_reducible exact Below.refl _ _ | with_reducible assumption | with_reducible refine Below.alloc ?_ (by first | (simp; done) | (simp; omega) | omega) _ | with_reducible refine Below.setCell ?_ (by first | (simp; done) | (simp; omega) | omega) _ | with_reducible refine Below.drew ?_ | with_reducible refine below_drewN ?_ _))) hbx)); clear hbx)
    | (go_at_call 21; (with_reducible refine Calls.mono (bwithin_any _ _ _ _) ?_); rintro e yx ⟨rfl, rfl⟩)
    | (go_at_call 81; (with_reducible refine Calls.mono (HMR.out _) ?_); rintro e yx ⟨rfl, hbx⟩; (try replace l0 := keep hbx l0); (try replace l1 := keep hbx l1); (try replace l2 := keep hbx l2); (try replace T9 := Lib.hid (T9.out.bel hbx)); (first | replace BV := Lib.hid (belowT (show Below w.heap.size w _ by have Bq := BV.out; have Bz := Bq.size; (repeat (first | with_reducible exact Below.refl _ _ | with_reducible assumption | with_reducible refine Below.alloc ?_ (by first | (simp; done) | (simp; omega) | omega) _ | with_reducible refine Below.setCell ?_ (by first | (simp; done) | (simp; omega) | omega) _ | with_reducible refine Below.drew ?_ | with_reducible refine below_drewN ?_ _))) hbx) | have BV := Lib.hid (belowT (show Below w.heap.size w _ by (repeat (first | with_reducible exact Below.refl _ _ | with_reducible assumption | with_reducible refine Below.alloc ?_ (by first | (simp; done) | (simp; omega) | omega) _ | with_reducible refine Below.setCell ?_ (by first | (simp; done) | (simp; omega) | omega) _ | with_reducible refine Below.drew ?_ | with_reducible refine below_drewN ?_ _))) hbx)); clear hbx))
  go_ret
  exact ⟨rfl, BV.out⟩
set_option maxRecDepth 100000 in
set_option maxHeartbeats 2000000 in
theorem sh_d (ph inc ch : Int) (A : Option Addr) (n c : Nat) (_ : Nat → Int × Int) (a : Int) (P : Int) (P0 : P ≠ 0) (w : World) (hw : wi a 0 2000 = true) (hn : n ≤ 60) (hP : prgE ph inc ch = P) :
    Calls Try.prog 14 #[.agg #[.int .i64 ph, .int .i64 inc, .int .i64 ch], .slice A n c, .int .i64 a] w fun e w' => e = .returned (.bool true) ∧ Below w.heap.size w w' := by
  have hE : mnE a n = 0 := by
    unfold mnE fs2 rgE
    rw [hw, wi_t.2 (by omega)]
    rfl
  have hn2 : ¬ (n : Int) > 400 := by omega
  obtain ⟨a0, a1⟩ := wi_t.1 hw
  have HMN := Lib.hid (fun W => minimumNorm_any a n W)
  have HMR := Lib.hid (fun W => minimumNormR_any a n a0 a1 (by omega) (by omega) W)
  rw [hE, if_pos rfl] at HMN
  clear hE
  generalize mnV a n = mv at *
  have h61 : ¬ (n : Int) > 60 := by omega
  have HPE := Lib.hid (fun W => programErr_any ph inc ch W)
  rw [hP] at HPE
  have p2 : (P != 0) = true := by simpa using P0
  clear hP P0
  go_enter Try.func14, Try.ntmps14
  go_wp2_with (first
    | (go_at_call 17; (with_reducible refine Calls.mono (awake_any _) ?_); rintro e yx ⟨rfl, hbx⟩; (try replace l0 := keep hbx l0); (try replace l1 := keep hbx l1); (try replace l2 := keep hbx l2); (try replace T9 := Lib.hid (T9.out.bel hbx)); (first | replace BV := Lib.hid (belowT (show Below w.heap.size w _ by have Bq := BV.out; have Bz := Bq.size; (repeat (first | with_reducible exact Below.refl _ _ | with_reducible assumption | with_reducible refine Below.alloc ?_ (by first | (simp; done) | (simp; omega) | omega) _ | with_reducible refine Below.setCell ?_ (by first | (simp; done) | (simp; omega) | omega) _ | with_reducible refine Below.drew ?_ | with_reducible refine below_drewN ?_ _))) hbx) | have BV := Lib.hid (belowT (show Below w.heap.size w _ by (repeat (first | with_reducible exact Below.refl _ _ | with_reducible assumption | with_reducible refine Below.alloc ?_ (by first | (simp; done) | (simp; omega) | omega) _ | with_reducible refine Below.setCell ?_ (by first | (simp; done) | (simp; omega) | omega) _ | with_reducible refine Below.drew ?_ | with_reducible refine below_drewN ?_ _))) hbx)); have l0 := keep hbx (b := w.heap.size) (o := 0) (v := .int .i64 ph) (by simp [go_sem]); have l1 := keep hbx (b := w.heap.size) (o := 1) (v := .int .i64 inc) (by simp [go_sem]); have l2 := keep hbx (b := w.heap.size) (o := 2) (v := .int .i64 ch) (by simp [go_sem]); clear hbx)
    | (go_at_call 80; (with_reducible refine Calls.mono (HMN.out _) ?_); rintro e yx ⟨rfl, hbx⟩; (try replace l0 := keep hbx l0); (try replace l1 := keep hbx l1); (try replace l2 := keep hbx l2); (try replace T9 := Lib.hid (T9.out.bel hbx)); (first | replace BV := Lib.hid (belowT (show Below w.heap.size w _ by have Bq := BV.out; have Bz := Bq.size; (repeat (first | with_reducible exact Below.refl _ _ | with_reducible assumption | with_reducible refine Below.alloc ?_ (by first | (simp; done) | (simp; omega) | omega) _ | with_reducible refine Below.setCell ?_ (by first | (simp; done) | (simp; omega) | omega) _ | with_reducible refine Below.drew ?_ | with_reducible refine below_drewN ?_ _))) hbx) | have BV := Lib.hid (belowT (show Below w.heap.size w _ by (repeat (first | with_reducible exact Below.refl _ _ | with_reducible assumption | with_reducible refine Below.alloc ?_ (by first | (simp; done) | (simp; omega) | omega) _ | with_reducible refine Below.setCell ?_ (by first | (simp; done) | (simp; omega) | omega) _ | with_reducible refine Below.drew ?_ | with_reducible refine below_drewN ?_ _))) hbx)); clear hbx)
    | (go_at_call 21; (with_reducible refine Calls.mono (bwithin_any _ _ _ _) ?_); rintro e yx ⟨rfl, rfl⟩)
    | (go_at_call 81; (with_reducible refine Calls.mono (HMR.out _) ?_); rintro e yx ⟨rfl, hbx⟩; (try replace l0 := keep hbx l0); (try replace l1 := keep hbx l1); (try replace l2 := keep hbx l2); (try replace T9 := Lib.hid (T9.out.bel hbx)); (first | replace BV := Lib.hid (belowT (show Below w.heap.size w _ by have Bq := BV.out; have Bz := Bq.size; (repeat (first | with_reducible exact Below.refl _ _ | with_reducible assumption | with_reducible refine Below.alloc ?_ (by first | (simp; done) | (simp; omega) | omega) _ | with_reducible refine Below.setCell ?_ (by first | (simp; done) | (simp; omega) | omega) _ | with_reducible refine Below.drew ?_ | with_reducible refine below_drewN ?_ _))) hbx) | have BV := Lib.hid (belowT (show Below w.heap.size w _ by (repeat (first | with_reducible exact Below.refl _ _ | with_reducible assumption | with_reducible refine Below.alloc ?_ (by first | (simp; done) | (simp; omega) | omega) _ | with_reducible refine Below.setCell ?_ (by first | (simp; done) | (simp; omega) | omega) _ | with_reducible refine Below.drew ?_ | with_reducible refine below_drewN ?_ _))) hbx)); clear hbx)
    | (go_at_call 41; (with_reducible refine Calls.mono (HPE.out _) ?_); rintro e yx ⟨rfl, hbx⟩; (try replace l0 := keep hbx l0); (try replace l1 := keep hbx l1); (try replace l2 := keep hbx l2); (try replace T9 := Lib.hid (T9.out.bel hbx)); (first | replace BV := Lib.hid (belowT (show Below w.heap.size w _ by have Bq := BV.out; have Bz := Bq.size; (repeat (first | with_reducible exact Below.refl _ _ | with_reducible assumption | with_reducible refine Below.alloc ?_ (by first | (simp; done) | (simp; omega) | omega) _ | with_reducible refine Below.setCell ?_ (by first | (simp; done) | (simp; omega) | omega) _ | with_reducible refine Below.drew ?_ | with_reducible refine below_drewN ?_ _))) hbx) | have BV := Lib.hid (belowT (show Below w.heap.size w _ by (repeat (first | with_reducible exact Below.refl _ _ | with_reducible assumption | with_reducible refine Below.alloc ?_ (by first | (simp; done) | (simp; omega) | omega) _ | with_reducible refine Below.setCell ?_ (by first | (simp; done) | (simp; omega) | omega) _ | with_reducible refine Below.drew ?_ | with_reducible refine below_drewN ?_ _))) hbx)); clear hbx))
  go_ret
  exact ⟨rfl, BV.out⟩
set_option maxRecDepth 100000 in
set_option maxHeartbeats 2000000 in
theorem sh_e (ph inc ch : Int) (A : Option Addr) (n c : Nat) (g : Nat → Int × Int) (a : Int) (D : Int) (D0 : D ≠ 0) (w : World) (hw : wi a 0 2000 = true) (hn : n ≤ 60) (hP : prgE ph inc ch = 0) (hD : smE n g = D) (hA : GA w A n g) :
    Calls Try.prog 14 #[.agg #[.int .i64 ph, .int .i64 inc, .int .i64 ch], .slice A n c, .int .i64 a] w fun e w' => e = .returned (.bool true) ∧ Below w.heap.size w w' := by
  have hE : mnE a n = 0 := by
    unfold mnE fs2 rgE
    rw [hw, wi_t.2 (by omega)]
    rfl
  have hn2 : ¬ (n : Int) > 400 := by omega
  obtain ⟨a0, a1⟩ := wi_t.1 hw
  have HMN := Lib.hid (fun W => minimumNorm_any a n W)
  have HMR := Lib.hid (fun W => minimumNormR_any a n a0 a1 (by omega) (by omega) W)
  rw [hE, if_pos rfl] at HMN
  clear hE
  generalize mnV a n = mv at *
  have h61 : ¬ (n : Int) > 60 := by omega
  have HPE := Lib.hid (fun W => programErr_any ph inc ch W)
  have HSE := Lib.hid (fun W (hW : Below w.heap.size w W) => samplesErr_any A n c g W (by omega) (hA.bel hW))
  rw [hP] at HPE
  rw [hD] at HSE
  have p2 : (D != 0) = true := by simpa using D0
  clear hP D0 hD hA
  go_enter Try.func14, Try.ntmps14
  go_wp2_with (first
    | (go_at_call 17; (with_reducible refine Calls.mono (awake_any _) ?_); rintro e yx ⟨rfl, hbx⟩; (try replace l0 := keep hbx l0); (try replace l1 := keep hbx l1); (try replace l2 := keep hbx l2); (try replace T9 := Lib.hid (T9.out.bel hbx)); (first | replace BV := Lib.hid (belowT (show Below w.heap.size w _ by have Bq := BV.out; have Bz := Bq.size; (repeat (first | with_reducible exact Below.refl _ _ | with_reducible assumption | with_reducible refine Below.alloc ?_ (by first | (simp; done) | (simp; omega) | omega) _ | with_reducible refine Below.setCell ?_ (by first | (simp; done) | (simp; omega) | omega) _ | with_reducible refine Below.drew ?_ | with_reducible refine below_drewN ?_ _))) hbx) | have BV := Lib.hid (belowT (show Below w.heap.size w _ by (repeat (first | with_reducible exact Below.refl _ _ | with_reducible assumption | with_reducible refine Below.alloc ?_ (by first | (simp; done) | (simp; omega) | omega) _ | with_reducible refine Below.setCell ?_ (by first | (simp; done) | (simp; omega) | omega) _ | with_reducible refine Below.drew ?_ | with_reducible refine below_drewN ?_ _))) hbx)); have l0 := keep hbx (b := w.heap.size) (o := 0) (v := .int .i64 ph) (by simp [go_sem]); have l1 := keep hbx (b := w.heap.size) (o := 1) (v := .int .i64 inc) (by simp [go_sem]); have l2 := keep hbx (b := w.heap.size) (o := 2) (v := .int .i64 ch) (by simp [go_sem]); clear hbx)
    | (go_at_call 80; (with_reducible refine Calls.mono (HMN.out _) ?_); rintro e yx ⟨rfl, hbx⟩; (try replace l0 := keep hbx l0); (try replace l1 := keep hbx l1); (try replace l2 := keep hbx l2); (try replace T9 := Lib.hid (T9.out.bel hbx)); (first | replace BV := Lib.hid (belowT (show Below w.heap.size w _ by have Bq := BV.out; have Bz := Bq.size; (repeat (first | with_reducible exact Below.refl _ _ | with_reducible assumption | with_reducible refine Below.alloc ?_ (by first | (simp; done) | (simp; omega) | omega) _ | with_reducible refine Below.setCell ?_ (by first | (simp; done) | (simp; omega) | omega) _ | with_reducible refine Below.drew ?_ | with_reducible refine below_drewN ?_ _))) hbx) | have BV := Lib.hid (belowT (show Below w.heap.size w _ by (repeat (first | with_reducible exact Below.refl _ _ | with_reducible assumption | with_reducible refine Below.alloc ?_ (by first | (simp; done) | (simp; omega) | omega) _ | with_reducible refine Below.setCell ?_ (by first | (simp; done) | (simp; omega) | omega) _ | with_reducible refine Below.drew ?_ | with_reducible refine below_drewN ?_ _))) hbx)); clear hbx)
    | (go_at_call 21; (with_reducible refine Calls.mono (bwithin_any _ _ _ _) ?_); rintro e yx ⟨rfl, rfl⟩)
    | (go_at_call 81; (with_reducible refine Calls.mono (HMR.out _) ?_); rintro e yx ⟨rfl, hbx⟩; (try replace l0 := keep hbx l0); (try replace l1 := keep hbx l1); (try replace l2 := keep hbx l2); (try replace T9 := Lib.hid (T9.out.bel hbx)); (first | replace BV := Lib.hid (belowT (show Below w.heap.size w _ by have Bq := BV.out; have Bz := Bq.size; (repeat (first | with_reducible exact Below.refl _ _ | with_reducible assumption | with_reducible refine Below.alloc ?_ (by first | (simp; done) | (simp; omega) | omega) _ | with_reducible refine Below.setCell ?_ (by first | (simp; done) | (simp; omega) | omega) _ | with_reducible refine Below.drew ?_ | with_reducible refine below_drewN ?_ _))) hbx) | have BV := Lib.hid (belowT (show Below w.heap.size w _ by (repeat (first | with_reducible exact Below.refl _ _ | with_reducible assumption | with_reducible refine Below.alloc ?_ (by first | (simp; done) | (simp; omega) | omega) _ | with_reducible refine Below.setCell ?_ (by first | (simp; done) | (simp; omega) | omega) _ | with_reducible refine Below.drew ?_ | with_reducible refine below_drewN ?_ _))) hbx)); clear hbx)
    | (go_at_call 41; (with_reducible refine Calls.mono (HPE.out _) ?_); rintro e yx ⟨rfl, hbx⟩; (try replace l0 := keep hbx l0); (try replace l1 := keep hbx l1); (try replace l2 := keep hbx l2); (try replace T9 := Lib.hid (T9.out.bel hbx)); (first | replace BV := Lib.hid (belowT (show Below w.heap.size w _ by have Bq := BV.out; have Bz := Bq.size; (repeat (first | with_reducible exact Below.refl _ _ | with_reducible assumption | with_reducible refine Below.alloc ?_ (by first | (simp; done) | (simp; omega) | omega) _ | with_reducible refine Below.setCell ?_ (by first | (simp; done) | (simp; omega) | omega) _ | with_reducible refine Below.drew ?_ | with_reducible refine below_drewN ?_ _))) hbx) | have BV := Lib.hid (belowT (show Below w.heap.size w _ by (repeat (first | with_reducible exact Below.refl _ _ | with_reducible assumption | with_reducible refine Below.alloc ?_ (by first | (simp; done) | (simp; omega) | omega) _ | with_reducible refine Below.setCell ?_ (by first | (simp; done) | (simp; omega) | omega) _ | with_reducible refine Below.drew ?_ | with_reducible refine below_drewN ?_ _))) hbx)); clear hbx)
    | (go_at_call 53; (with_reducible refine Calls.mono (HSE.out _ BV.out) ?_); rintro e yx ⟨rfl, hbx⟩; (try replace l0 := keep hbx l0); (try replace l1 := keep hbx l1); (try replace l2 := keep hbx l2); (try replace T9 := Lib.hid (T9.out.bel hbx)); (first | replace BV := Lib.hid (belowT (show Below w.heap.size w _ by have Bq := BV.out; have Bz := Bq.size; (repeat (first | with_reducible exact Below.refl _ _ | with_reducible assumption | with_reducible refine Below.alloc ?_ (by first | (simp; done) | (simp; omega) | omega) _ | with_reducible refine Below.setCell ?_ (by first | (simp; done) | (simp; omega) | omega) _ | with_reducible refine Below.drew ?_ | with_reducible refine below_drewN ?_ _))) hbx) | have BV := Lib.hid (belowT (show Below w.heap.size w _ by (repeat (first | with_reducible exact Below.refl _ _ | with_reducible assumption | with_reducible refine Below.alloc ?_ (by first | (simp; done) | (simp; omega) | omega) _ | with_reducible refine Below.setCell ?_ (by first | (simp; done) | (simp; omega) | omega) _ | with_reducible refine Below.drew ?_ | with_reducible refine below_drewN ?_ _))) hbx)); clear hbx))
  go_ret
  exact ⟨rfl, BV.out⟩
set_option maxRecDepth 100000 in
set_option maxHeartbeats 2000000 in
theorem sh_m (ph inc ch : Int) (A : Option Addr) (n c : Nat) (g : Nat → Int × Int) (a : Int) (w : World) (hw : wi a 0 2000 = true) (hn : n ≤ 60) (hP : prgE ph inc ch = 0) (hD : smE n g = 0) (hG : GS w (.slice A n c) n g) :
    Calls Try.prog 14 #[.agg #[.int .i64 ph, .int .i64 inc, .int .i64 ch], .slice A n c, .int .i64 a] w fun e w' => e = .returned (.bool true) ∧ Below w.heap.size w w' := by
  have hE : mnE a n = 0 := by
    unfold mnE fs2 rgE
    rw [hw, wi_t.2 (by omega)]
    rfl
  have hn2 : ¬ (n : Int) > 400 := by omega
  obtain ⟨a0, a1⟩ := wi_t.1 hw
  have HMN := Lib.hid (fun W => minimumNorm_any a n W)
  have HMR := Lib.hid (fun W => minimumNormR_any a n a0 a1 (by omega) (by omega) W)
  rw [hE, if_pos rfl] at HMN
  clear hE
  have hA : GA w A n g := by obtain ⟨A', c', e, h, _⟩ := hG; cases e; exact h
  have h61 : ¬ (n : Int) > 60 := by omega
  have HPE := Lib.hid (fun W => programErr_any ph inc ch W)
  have HSE := Lib.hid (fun W (hW : Below w.heap.size w W) => samplesErr_any A n c g W (by omega) (hA.bel hW))
  rw [hP] at HPE
  rw [hD] at HSE
  have hx : mxE ph inc ch n g = 0 := by unfold mxE fs2; rw [hP, hD]; rfl
  have HCG := Lib.hid (fun W (hW : Below w.heap.size w W) => copyG_any (.slice A n c) n g W (by omega) (hG.on hW))
  have HMX := Lib.hid (fun A1 c1 W (h : GA W A1 n g) => mixedS_ok ph inc ch A1 n c1 g hx W h)
  have hb := mx_bd (s := -1) (ph := ph) (inc := inc) (ch := ch) (sm_0 hD).2
  obtain ⟨h, hh⟩ : ∃ h, mxS (-1) ph inc ch g = h := ⟨_, rfl⟩
  rw [hh] at HMX hb
  have hsm : smE n h = 0 := sm_bd (by omega) hb
  have hbo : boE n h 0 = 0 := by unfold boE fs2; rw [hsm]; rfl
  have HSM := Lib.hid (fun A1 c1 W (hA : GA W A1 n h) => samplesErr_any A1 n c1 h W (by omega) hA)
  rw [hsm] at HSM
  have HBO := Lib.hid (fun A1 c1 W (hA : GA W A1 n h) => binOfS_ok A1 n c1 h 0 hbo W hA)
  rw [show (-(0 : Int)) = 0 from rfl] at HBO
  have HHI : Hid ((∀ i, i < n → siz (h i).2 ≤ (h i).1 ∧ a * a ≤ nrm (h i)) → mnV a n ≤ nrm ((bnS 0 h n).1, (bnS 0 h n).2)) := Lib.hid (fun H => hid_bound a0 H)
  have hB2 := bn_bd (s := 0) (M := 2000) (by omega) hb n (Nat.le_refl _)
  have HGE := Lib.hid (fun W => gaussErr_any (bnS 0 h n).1 (bnS 0 h n).2 120000 (by omega) (by omega) W)
  rw [pt_bd (by omega)] at HGE
  have HGB := Lib.hid (fun W => gnorm_any (bnS 0 h n).1 (bnS 0 h n).2 (by omega) (by omega) (by omega) (by omega) W)
  have Hb := Lib.hid hb
  have xa : IntKind.i64.wrap (a * a) = a * a := IntWalk.i64_in _ (by have := mbd (a := a) (b := a) (A := 2000) (B := 2000) (by omega) (by omega) (by omega) (by omega); omega)
  clear hP hD hA hG hx hb hh hsm hbo hB2 a0 a1
  generalize mnV a n = mv at *
  generalize (bnS 0 h n).1 = X at *
  generalize (bnS 0 h n).2 = Y at *
  go_enter Try.func14, Try.ntmps14
  go_upto_region 10 with (first
    | (go_at_call 17; (with_reducible refine Calls.mono (awake_any _) ?_); rintro e yx ⟨rfl, hbx⟩; (try replace l0 := keep hbx l0); (try replace l1 := keep hbx l1); (try replace l2 := keep hbx l2); (try replace T9 := Lib.hid (T9.out.bel hbx)); (first | replace BV := Lib.hid (belowT (show Below w.heap.size w _ by have Bq := BV.out; have Bz := Bq.size; (repeat (first | with_reducible exact Below.refl _ _ | with_reducible assumption | with_reducible refine Below.alloc ?_ (by first | (simp; done) | (simp; omega) | omega) _ | with_reducible refine Below.setCell ?_ (by first | (simp; done) | (simp; omega) | omega) _ | with_reducible refine Below.drew ?_ | with_reducible refine below_drewN ?_ _))) hbx) | have BV := Lib.hid (belowT (show Below w.heap.size w _ by (repeat (first | with_reducible exact Below.refl _ _ | with_reducible assumption | with_reducible refine Below.alloc ?_ (by first | (simp; done) | (simp; omega) | omega) _ | with_reducible refine Below.setCell ?_ (by first | (simp; done) | (simp; omega) | omega) _ | with_reducible refine Below.drew ?_ | with_reducible refine below_drewN ?_ _))) hbx)); have l0 := keep hbx (b := w.heap.size) (o := 0) (v := .int .i64 ph) (by simp [go_sem]); have l1 := keep hbx (b := w.heap.size) (o := 1) (v := .int .i64 inc) (by simp [go_sem]); have l2 := keep hbx (b := w.heap.size) (o := 2) (v := .int .i64 ch) (by simp [go_sem]); clear hbx)
    | (go_at_call 80; (with_reducible refine Calls.mono (HMN.out _) ?_); rintro e yx ⟨rfl, hbx⟩; (try replace l0 := keep hbx l0); (try replace l1 := keep hbx l1); (try replace l2 := keep hbx l2); (try replace T9 := Lib.hid (T9.out.bel hbx)); (first | replace BV := Lib.hid (belowT (show Below w.heap.size w _ by have Bq := BV.out; have Bz := Bq.size; (repeat (first | with_reducible exact Below.refl _ _ | with_reducible assumption | with_reducible refine Below.alloc ?_ (by first | (simp; done) | (simp; omega) | omega) _ | with_reducible refine Below.setCell ?_ (by first | (simp; done) | (simp; omega) | omega) _ | with_reducible refine Below.drew ?_ | with_reducible refine below_drewN ?_ _))) hbx) | have BV := Lib.hid (belowT (show Below w.heap.size w _ by (repeat (first | with_reducible exact Below.refl _ _ | with_reducible assumption | with_reducible refine Below.alloc ?_ (by first | (simp; done) | (simp; omega) | omega) _ | with_reducible refine Below.setCell ?_ (by first | (simp; done) | (simp; omega) | omega) _ | with_reducible refine Below.drew ?_ | with_reducible refine below_drewN ?_ _))) hbx)); clear hbx)
    | (go_at_call 21; (with_reducible refine Calls.mono (bwithin_any _ _ _ _) ?_); rintro e yx ⟨rfl, rfl⟩)
    | (go_at_call 81; (with_reducible refine Calls.mono (HMR.out _) ?_); rintro e yx ⟨rfl, hbx⟩; (try replace l0 := keep hbx l0); (try replace l1 := keep hbx l1); (try replace l2 := keep hbx l2); (try replace T9 := Lib.hid (T9.out.bel hbx)); (first | replace BV := Lib.hid (belowT (show Below w.heap.size w _ by have Bq := BV.out; have Bz := Bq.size; (repeat (first | with_reducible exact Below.refl _ _ | with_reducible assumption | with_reducible refine Below.alloc ?_ (by first | (simp; done) | (simp; omega) | omega) _ | with_reducible refine Below.setCell ?_ (by first | (simp; done) | (simp; omega) | omega) _ | with_reducible refine Below.drew ?_ | with_reducible refine below_drewN ?_ _))) hbx) | have BV := Lib.hid (belowT (show Below w.heap.size w _ by (repeat (first | with_reducible exact Below.refl _ _ | with_reducible assumption | with_reducible refine Below.alloc ?_ (by first | (simp; done) | (simp; omega) | omega) _ | with_reducible refine Below.setCell ?_ (by first | (simp; done) | (simp; omega) | omega) _ | with_reducible refine Below.drew ?_ | with_reducible refine below_drewN ?_ _))) hbx)); clear hbx)
    | (go_at_call 41; (with_reducible refine Calls.mono (HPE.out _) ?_); rintro e yx ⟨rfl, hbx⟩; (try replace l0 := keep hbx l0); (try replace l1 := keep hbx l1); (try replace l2 := keep hbx l2); (try replace T9 := Lib.hid (T9.out.bel hbx)); (first | replace BV := Lib.hid (belowT (show Below w.heap.size w _ by have Bq := BV.out; have Bz := Bq.size; (repeat (first | with_reducible exact Below.refl _ _ | with_reducible assumption | with_reducible refine Below.alloc ?_ (by first | (simp; done) | (simp; omega) | omega) _ | with_reducible refine Below.setCell ?_ (by first | (simp; done) | (simp; omega) | omega) _ | with_reducible refine Below.drew ?_ | with_reducible refine below_drewN ?_ _))) hbx) | have BV := Lib.hid (belowT (show Below w.heap.size w _ by (repeat (first | with_reducible exact Below.refl _ _ | with_reducible assumption | with_reducible refine Below.alloc ?_ (by first | (simp; done) | (simp; omega) | omega) _ | with_reducible refine Below.setCell ?_ (by first | (simp; done) | (simp; omega) | omega) _ | with_reducible refine Below.drew ?_ | with_reducible refine below_drewN ?_ _))) hbx)); clear hbx)
    | (go_at_call 53; (with_reducible refine Calls.mono (HSE.out _ BV.out) ?_); rintro e yx ⟨rfl, hbx⟩; (try replace l0 := keep hbx l0); (try replace l1 := keep hbx l1); (try replace l2 := keep hbx l2); (try replace T9 := Lib.hid (T9.out.bel hbx)); (first | replace BV := Lib.hid (belowT (show Below w.heap.size w _ by have Bq := BV.out; have Bz := Bq.size; (repeat (first | with_reducible exact Below.refl _ _ | with_reducible assumption | with_reducible refine Below.alloc ?_ (by first | (simp; done) | (simp; omega) | omega) _ | with_reducible refine Below.setCell ?_ (by first | (simp; done) | (simp; omega) | omega) _ | with_reducible refine Below.drew ?_ | with_reducible refine below_drewN ?_ _))) hbx) | have BV := Lib.hid (belowT (show Below w.heap.size w _ by (repeat (first | with_reducible exact Below.refl _ _ | with_reducible assumption | with_reducible refine Below.alloc ?_ (by first | (simp; done) | (simp; omega) | omega) _ | with_reducible refine Below.setCell ?_ (by first | (simp; done) | (simp; omega) | omega) _ | with_reducible refine Below.drew ?_ | with_reducible refine below_drewN ?_ _))) hbx)); clear hbx))
  have HB0 := BV
  generalize yx = v0 at *
  clear BV HMN HMR HPE HSE
  refine wp_region_mp [mpEq (.agg #[.int .i64 ph, .int .i64 inc, .int .i64 ch]), mpEq (.slice A n c), mpGS (n) (g), mpTG (n) (h) (0), mpTG (n) (h) (0), mpGS (n) (h), mpEq (.int .i64 (0)), mpGS (n) (h), mpEq (.int .i64 (0))] pp0 (by kernel_rfl) (by kernel_rfl) (by kernel_rfl) (
        allOps_cons (fun a' w' hb hs hd => rg_op fun K hK => by
      have e0 := (hs.get 3 (by kernel_rfl)).trans (show _ = .pointer (some ⟨w.heap.size, 0, none⟩) from rfl)
      have ec : ∀ v, a'.eval (.const v) = v := fun _ => rfl
      have c0 := keep hb l0
      have c1 := keep hb l1
      have c2 := keep hb l2
      clear hs hd
      unfold Oper.wp
      generalize a'.eval = ρ at e0 ec ⊢
      simp [go_sem, e0, c0, c1, c2]
      exact hK _ _ (Below.refl _ _) rfl) <|
        allOps_cons (fun a' w' hb hs hd => rg_op fun K hK => by
      have e0 := (hs.get 1 (by kernel_rfl)).trans (show _ = .slice A n c from rfl)
      have ec : ∀ v, a'.eval (.const v) = v := fun _ => rfl
      clear hs hd
      unfold Oper.wp
      generalize a'.eval = ρ at e0 ec ⊢
      simp [go_sem, e0]
      exact hK _ _ (Below.refl _ _) rfl) <|
        allOps_cons (fun a' w' hb hs hd => by
      exact rg_fn (φ := (mpGS (n) (g)).p) (vs := #[.slice A n c]) rfl (enters_of Try.func49 (by kernel_rfl) rfl) (by simp [(show a'.eval (.tmp 62) = .slice A n c from hd.get 1 62 (by kernel_rfl) (by kernel_rfl))]) ((HCG.out w' (belowT HB0.out hb)).mono (by rintro e w1 ⟨v, rfl, h1, h2⟩; exact ⟨_, rfl, h1, h2⟩))) <|
        allOps_cons (fun a' w' hb hs hd => by
      obtain ⟨A1, c1, e1, hG1, _⟩ := (show (mpGS (n) (g)).p (a'.eval (.tmp 63)) w' from hd.get 2 63 (by kernel_rfl) (by kernel_rfl))
      exact rg_fn (φ := (mpTG (n) (h) (0)).p) (vs := #[.agg #[.int .i64 ph, .int .i64 inc, .int .i64 ch], .slice A1 n c1]) rfl (enters_of Try.func48 (by kernel_rfl) rfl) (by simp [(show a'.eval (.tmp 61) = .agg #[.int .i64 ph, .int .i64 inc, .int .i64 ch] from hd.get 0 61 (by kernel_rfl) (by kernel_rfl)), e1]) ((HMX.out A1 c1 w' hG1).mono (by rintro e w1 ⟨A2, c2, rfl, h1, h2, h3⟩; exact ⟨_, rfl, h1, A2, c2, rfl, h2, fun q => (by have h4 := h3 q; simpa using h4)⟩))) <|
        allOps_cons (fun a' w' hb hs hd => rg_op fun K hK => by
      have e0 := (show (mpTG (n) (h) (0)).p (a'.eval (.tmp 64)) w' from hd.get 3 64 (by kernel_rfl) (by kernel_rfl))
      clear hs hd
      unfold Oper.wp
      generalize a'.eval = ρ at e0 ⊢
      simp [go_sem]
      exact hK _ _ (Below.refl _ _) e0) <|
        allOps_cons (fun a' w' hb hs hd => rg_op fun K hK => by
      obtain ⟨At, ct, e0, ht1, ht2⟩ := (show (mpTG (n) (h) (0)).p (a'.eval (.tmp 60)) w' from hd.get 4 60 (by kernel_rfl) (by kernel_rfl))
      clear hs hd
      unfold Oper.wp
      generalize a'.eval = ρ at e0 ⊢
      simp [go_sem, e0]
      exact hK _ _ (Below.refl _ _) ⟨At, ct, rfl, ht1, ht2⟩) <|
        allOps_cons (fun a' w' hb hs hd => rg_op fun K hK => by
      obtain ⟨At, ct, e0, ht1, ht2⟩ := (show (mpTG (n) (h) (0)).p (a'.eval (.tmp 60)) w' from hd.get 4 60 (by kernel_rfl) (by kernel_rfl))
      clear hs hd
      unfold Oper.wp
      generalize a'.eval = ρ at e0 ⊢
      simp [go_sem, e0]
      exact hK _ _ (Below.refl _ _) rfl) <|
        allOps_cons (fun a' w' hb hs hd => rg_op fun K hK => by
      have e0 := (show (mpGS (n) (h)).p (a'.eval (.tmp 65)) w' from hd.get 5 65 (by kernel_rfl) (by kernel_rfl))
      clear hs hd
      unfold Oper.wp
      generalize a'.eval = ρ at e0 ⊢
      simp [go_sem]
      exact hK _ _ (Below.refl _ _) e0) <|
        allOps_cons (fun a' w' hb hs hd => rg_op fun K hK => by
      have e0 := (show a'.eval (.tmp 66) = .int .i64 (0) from hd.get 6 66 (by kernel_rfl) (by kernel_rfl))
      have ec : ∀ v, a'.eval (.const v) = v := fun _ => rfl
      clear hs hd
      unfold Oper.wp
      generalize a'.eval = ρ at e0 ec ⊢
      simp [go_sem, e0]
      exact hK _ _ (Below.refl _ _) rfl) <| allOps_nil) (fun V v1 hv1 hall => ?_)
  have h9 : (mpGS (n) (h)).p (V 9) _ := hall.get 7 rfl
  have h10 : V 10 = .int .i64 (0) := hall.get 8 rfl
  clear hall
  simp only [pp0, maskPut, Nat.reduceAdd]
  rw [h10]
  clear h10
  obtain ⟨A9, c9, e9, hG9, _⟩ := h9
  rw [e9]
  have BV := Lib.hid (belowT HB0.out hv1)
  have T9 := Lib.hid hG9
  clear HB0 hv1 hG9 e9 l0 l1 l2
  go_upto_region 14 with (go_at_call 53; (with_reducible refine Calls.mono (HSM.out _ _ _ T9.out) ?_); rintro e yx ⟨rfl, hbx⟩; replace T9 := Lib.hid (T9.out.bel hbx); replace BV := Lib.hid (belowT BV.out hbx); clear hbx)
  generalize yx = wb at *
  clear HSM HMX HCG
  go_loopw [11] (fun s11 wr => ∃ k : Nat, k ≤ n ∧ s11 = .int .i64 k ∧ Hid (Below wb.heap.size wb wr) ∧ Hid (∀ i, i < k → siz (h i).2 ≤ (h i).1 ∧ a * a ≤ nrm (h i))) (fun i _ => n - (intOf i).toNat)
  case atStart => exact ⟨0, Nat.zero_le _, rfl, Below.refl _ _, fun i hi => absurd hi (Nat.not_lt_zero _)⟩
  case round =>
    obtain ⟨k, hk, rfl, HB, HI⟩ := hrel
    by_cases hlt : k < n
    · obtain ⟨bM, oM, rfl, hM⟩ := T9.out (by omega)
      have x0 := keep HB.out (hM k hlt).1
      have x1 := keep HB.out (hM k hlt).2
      have hbk := Hb.out k hlt
      have HSZ := Lib.hid (fun W => bsize_any (h k).2 (by omega) (by omega) W)
      have HGN := Lib.hid (fun W => gnorm_any (h k).1 (h k).2 (by omega) (by omega) (by omega) (by omega) W)
      have HN : Hid (¬ (h k).1 < siz (h k).2 → ¬ nrm ((h k).1, (h k).2) < a * a → ∀ i, i < k + 1 → siz (h i).2 ≤ (h i).1 ∧ a * a ≤ nrm (h i)) := Lib.hid (fun q1 q2 i hi => (by
        rcases Nat.lt_or_eq_of_le (Nat.le_of_lt_succ hi) with q | q
        · exact HI.out i q
        · subst q
          exact ⟨by omega, (by have q3 : ¬ nrm (h i) < a * a := q2; omega)⟩))
      have g1 : (0 : Int) ≤ (k : Int) := by omega
      have g2 : (k : Int) < (n : Int) := by omega
      clear hM hbk
      generalize nrm ((h k).1, (h k).2) = nr at *
      generalize siz (h k).2 = si at *
      generalize hre : (h k).1 = re at *
      generalize him : (h k).2 = im at *
      by_cases q1 : re < si
      · have hb1 : decide (re < si) = true := by simpa using q1
        go_wp2_with fail
        refine wp_region_gd [mpEq (.slice (some ⟨bM, oM, none⟩) n c9), mpEq (.int .i64 k), mpEq (.pointer (some ⟨bM, oM + k * 2, none⟩)), mpEq (.pointer (some ⟨bM, oM + k * 2, none⟩)), mpEq (.int .i64 re), mpEq (.slice (some ⟨bM, oM, none⟩) n c9), mpEq (.int .i64 k), mpEq (.pointer (some ⟨bM, oM + k * 2, none⟩)), mpEq (.pointer (some ⟨bM, oM + k * 2 + 1, none⟩)), mpEq (.int .i64 im), mpEq (.int .i64 si), mpEq (.bool true), mpEq (.bool true), mpEq undef, mpEq undef, mpEq undef, mpEq undef, mpEq undef, mpEq undef, mpEq undef, mpEq undef, mpEq undef, mpEq (.bool true)] pp1 (by kernel_rfl) (by kernel_rfl) (by kernel_rfl) (
              allOps_cons (fun a' w' hb hs hd => Or.inl ⟨wanted_n rfl, rg_op fun K hK => by
            have e0 := (hs.get 9 (by kernel_rfl)).trans (show _ = .slice (some ⟨bM, oM, none⟩) n c9 from rfl)
            have ec : ∀ v, a'.eval (.const v) = v := fun _ => rfl
            clear hs hd
            unfold Oper.wp
            generalize a'.eval = ρ at e0 ec ⊢
            simp [go_sem, e0]
            exact hK _ _ (Below.refl _ _) rfl⟩) <|
              allOps_cons (fun a' w' hb hs hd => Or.inl ⟨wanted_n rfl, rg_op fun K hK => by
            have e0 := (hs.get 11 (by kernel_rfl)).trans (show _ = .int .i64 k from rfl)
            have ec : ∀ v, a'.eval (.const v) = v := fun _ => rfl
            clear hs hd
            unfold Oper.wp
            generalize a'.eval = ρ at e0 ec ⊢
            simp [go_sem, e0]
            exact hK _ _ (Below.refl _ _) rfl⟩) <|
              allOps_cons (fun a' w' hb hs hd => Or.inl ⟨wanted_n rfl, rg_op fun K hK => by
            have e0 := (show a'.eval (.tmp 87) = .slice (some ⟨bM, oM, none⟩) n c9 from hd.get 0 87 (by kernel_rfl) (by kernel_rfl))
            have e1 := (show a'.eval (.tmp 88) = .int .i64 k from hd.get 1 88 (by kernel_rfl) (by kernel_rfl))
            have ec : ∀ v, a'.eval (.const v) = v := fun _ => rfl
            clear hs hd
            unfold Oper.wp
            generalize a'.eval = ρ at e0 e1 ec ⊢
            simp [go_sem, e0, e1, g1, g2]
            exact hK _ _ (Below.refl _ _) rfl⟩) <|
              allOps_cons (fun a' w' hb hs hd => Or.inl ⟨wanted_n rfl, rg_op fun K hK => by
            have e0 := (show a'.eval (.tmp 89) = .pointer (some ⟨bM, oM + k * 2, none⟩) from hd.get 2 89 (by kernel_rfl) (by kernel_rfl))
            have ec : ∀ v, a'.eval (.const v) = v := fun _ => rfl
            clear hs hd
            unfold Oper.wp
            generalize a'.eval = ρ at e0 ec ⊢
            simp [go_sem, e0]
            exact hK _ _ (Below.refl _ _) rfl⟩) <|
              allOps_cons (fun a' w' hb hs hd => Or.inl ⟨wanted_n rfl, rg_op fun K hK => by
            have e0 := (show a'.eval (.tmp 90) = .pointer (some ⟨bM, oM + k * 2, none⟩) from hd.get 3 90 (by kernel_rfl) (by kernel_rfl))
            have ec : ∀ v, a'.eval (.const v) = v := fun _ => rfl
            have c0 := keep hb x0
            clear hs hd
            unfold Oper.wp
            generalize a'.eval = ρ at e0 ec ⊢
            simp [go_sem, e0, c0]
            exact hK _ _ (Below.refl _ _) rfl⟩) <|
              allOps_cons (fun a' w' hb hs hd => Or.inl ⟨wanted_n rfl, rg_op fun K hK => by
            have e0 := (hs.get 9 (by kernel_rfl)).trans (show _ = .slice (some ⟨bM, oM, none⟩) n c9 from rfl)
            have ec : ∀ v, a'.eval (.const v) = v := fun _ => rfl
            clear hs hd
            unfold Oper.wp
            generalize a'.eval = ρ at e0 ec ⊢
            simp [go_sem, e0]
            exact hK _ _ (Below.refl _ _) rfl⟩) <|
              allOps_cons (fun a' w' hb hs hd => Or.inl ⟨wanted_n rfl, rg_op fun K hK => by
            have e0 := (hs.get 11 (by kernel_rfl)).trans (show _ = .int .i64 k from rfl)
            have ec : ∀ v, a'.eval (.const v) = v := fun _ => rfl
            clear hs hd
            unfold Oper.wp
            generalize a'.eval = ρ at e0 ec ⊢
            simp [go_sem, e0]
            exact hK _ _ (Below.refl _ _) rfl⟩) <|
              allOps_cons (fun a' w' hb hs hd => Or.inl ⟨wanted_n rfl, rg_op fun K hK => by
            have e0 := (show a'.eval (.tmp 92) = .slice (some ⟨bM, oM, none⟩) n c9 from hd.get 5 92 (by kernel_rfl) (by kernel_rfl))
            have e1 := (show a'.eval (.tmp 93) = .int .i64 k from hd.get 6 93 (by kernel_rfl) (by kernel_rfl))
            have ec : ∀ v, a'.eval (.const v) = v := fun _ => rfl
            clear hs hd
            unfold Oper.wp
            generalize a'.eval = ρ at e0 e1 ec ⊢
            simp [go_sem, e0, e1, g1, g2]
            exact hK _ _ (Below.refl _ _) rfl⟩) <|
              allOps_cons (fun a' w' hb hs hd => Or.inl ⟨wanted_n rfl, rg_op fun K hK => by
            have e0 := (show a'.eval (.tmp 94) = .pointer (some ⟨bM, oM + k * 2, none⟩) from hd.get 7 94 (by kernel_rfl) (by kernel_rfl))
            have ec : ∀ v, a'.eval (.const v) = v := fun _ => rfl
            clear hs hd
            unfold Oper.wp
            generalize a'.eval = ρ at e0 ec ⊢
            simp [go_sem, e0]
            exact hK _ _ (Below.refl _ _) rfl⟩) <|
              allOps_cons (fun a' w' hb hs hd => Or.inl ⟨wanted_n rfl, rg_op fun K hK => by
            have e0 := (show a'.eval (.tmp 95) = .pointer (some ⟨bM, oM + k * 2 + 1, none⟩) from hd.get 8 95 (by kernel_rfl) (by kernel_rfl))
            have ec : ∀ v, a'.eval (.const v) = v := fun _ => rfl
            have c0 := keep hb x1
            clear hs hd
            unfold Oper.wp
            generalize a'.eval = ρ at e0 ec ⊢
            simp [go_sem, e0, c0]
            exact hK _ _ (Below.refl _ _) rfl⟩) <|
              allOps_cons (fun a' w' hb hs hd => Or.inl ⟨wanted_n rfl, by
            exact rg_fn (φ := (mpEq (.int .i64 si)).p) (vs := #[.int .i64 im]) rfl (enters_of Try.func82 (by kernel_rfl) rfl) (by simp [(show a'.eval (.tmp 96) = .int .i64 im from hd.get 9 96 (by kernel_rfl) (by kernel_rfl))]) ((HSZ.out w').mono (by rintro e w1 ⟨rfl, rfl⟩; exact ⟨_, rfl, Below.refl _ _, rfl⟩))⟩) <|
              allOps_cons (fun a' w' hb hs hd => Or.inl ⟨wanted_n rfl, rg_op fun K hK => by
            have e0 := (show a'.eval (.tmp 91) = .int .i64 re from hd.get 4 91 (by kernel_rfl) (by kernel_rfl))
            have e1 := (show a'.eval (.tmp 97) = .int .i64 si from hd.get 10 97 (by kernel_rfl) (by kernel_rfl))
            have ec : ∀ v, a'.eval (.const v) = v := fun _ => rfl
            clear hs hd
            unfold Oper.wp
            generalize a'.eval = ρ at e0 e1 ec ⊢
            simp [go_sem, e0, e1, hb1]
            exact hK _ _ (Below.refl _ _) rfl⟩) <|
              allOps_cons (fun a' w' hb hs hd => Or.inl ⟨wanted_n rfl, rg_op fun K hK => by
            have e0 := (show a'.eval (.tmp 98) = .bool true from hd.get 11 98 (by kernel_rfl) (by kernel_rfl))
            have ec : ∀ v, a'.eval (.const v) = v := fun _ => rfl
            clear hs hd
            unfold Oper.wp
            generalize a'.eval = ρ at e0 ec ⊢
            simp [go_sem, e0]
            exact hK _ _ (Below.refl _ _) rfl⟩) <|
              allOps_cons (fun a' w' hb hs hd => Or.inr ⟨wanted_f (j := 12) (d := 99) rfl (by kernel_rfl) (show a'.eval (.tmp 99) = .bool true from hd.get 12 99 (by kernel_rfl) (by kernel_rfl)) rfl, rfl⟩) <|
              allOps_cons (fun a' w' hb hs hd => Or.inr ⟨wanted_f (j := 12) (d := 99) rfl (by kernel_rfl) (show a'.eval (.tmp 99) = .bool true from hd.get 12 99 (by kernel_rfl) (by kernel_rfl)) rfl, rfl⟩) <|
              allOps_cons (fun a' w' hb hs hd => Or.inr ⟨wanted_f (j := 12) (d := 99) rfl (by kernel_rfl) (show a'.eval (.tmp 99) = .bool true from hd.get 12 99 (by kernel_rfl) (by kernel_rfl)) rfl, rfl⟩) <|
              allOps_cons (fun a' w' hb hs hd => Or.inr ⟨wanted_f (j := 12) (d := 99) rfl (by kernel_rfl) (show a'.eval (.tmp 99) = .bool true from hd.get 12 99 (by kernel_rfl) (by kernel_rfl)) rfl, rfl⟩) <|
              allOps_cons (fun a' w' hb hs hd => Or.inr ⟨wanted_f (j := 12) (d := 99) rfl (by kernel_rfl) (show a'.eval (.tmp 99) = .bool true from hd.get 12 99 (by kernel_rfl) (by kernel_rfl)) rfl, rfl⟩) <|
              allOps_cons (fun a' w' hb hs hd => Or.inr ⟨wanted_f (j := 12) (d := 99) rfl (by kernel_rfl) (show a'.eval (.tmp 99) = .bool true from hd.get 12 99 (by kernel_rfl) (by kernel_rfl)) rfl, rfl⟩) <|
              allOps_cons (fun a' w' hb hs hd => Or.inr ⟨wanted_f (j := 12) (d := 99) rfl (by kernel_rfl) (show a'.eval (.tmp 99) = .bool true from hd.get 12 99 (by kernel_rfl) (by kernel_rfl)) rfl, rfl⟩) <|
              allOps_cons (fun a' w' hb hs hd => Or.inr ⟨wanted_f (j := 12) (d := 99) rfl (by kernel_rfl) (show a'.eval (.tmp 99) = .bool true from hd.get 12 99 (by kernel_rfl) (by kernel_rfl)) rfl, rfl⟩) <|
              allOps_cons (fun a' w' hb hs hd => Or.inr ⟨wanted_f (j := 12) (d := 99) rfl (by kernel_rfl) (show a'.eval (.tmp 99) = .bool true from hd.get 12 99 (by kernel_rfl) (by kernel_rfl)) rfl, rfl⟩) <|
              allOps_cons (fun a' w' hb hs hd => Or.inl ⟨wanted_n rfl, rg_op fun K hK => by
            have e0 := (show a'.eval (.tmp 99) = .bool true from hd.get 12 99 (by kernel_rfl) (by kernel_rfl))
            have ec : ∀ v, a'.eval (.const v) = v := fun _ => rfl
            clear hs hd
            unfold Oper.wp
            generalize a'.eval = ρ at e0 ec ⊢
            simp [go_sem, e0, ec]
            exact hK _ _ (Below.refl _ _) rfl⟩) <| allOps_nil) (fun V v1 hv1 hall => ?_)
        have h109 : V 109 = .bool true := hall.get 22 rfl
        clear hall
        simp only [pp1, maskPut, Nat.reduceAdd]
        rw [h109]
        clear h109
        go_wp2
        go_ret
        exact ⟨rfl, belowT BV.out (belowT HB.out hv1)⟩
      · have hb1 : decide (re < si) = false := by simpa using q1
        by_cases q2 : nr < a * a
        · have hb2 : decide (nr < a * a) = true := by simpa using q2
          go_wp2_with fail
          refine wp_region_gd [mpEq (.slice (some ⟨bM, oM, none⟩) n c9), mpEq (.int .i64 k), mpEq (.pointer (some ⟨bM, oM + k * 2, none⟩)), mpEq (.pointer (some ⟨bM, oM + k * 2, none⟩)), mpEq (.int .i64 re), mpEq (.slice (some ⟨bM, oM, none⟩) n c9), mpEq (.int .i64 k), mpEq (.pointer (some ⟨bM, oM + k * 2, none⟩)), mpEq (.pointer (some ⟨bM, oM + k * 2 + 1, none⟩)), mpEq (.int .i64 im), mpEq (.int .i64 si), mpEq (.bool false), mpEq (.bool false), mpEq (.slice (some ⟨bM, oM, none⟩) n c9), mpEq (.int .i64 k), mpEq (.pointer (some ⟨bM, oM + k * 2, none⟩)), mpEq (.agg #[.int .i64 re, .int .i64 im]), mpEq (.int .i64 nr), mpEq (.int .i64 a), mpEq (.int .i64 a), mpEq (.int .i64 (a * a)), mpEq (.bool true), mpEq (.bool true)] pp1 (by kernel_rfl) (by kernel_rfl) (by kernel_rfl) (
                allOps_cons (fun a' w' hb hs hd => Or.inl ⟨wanted_n rfl, rg_op fun K hK => by
              have e0 := (hs.get 9 (by kernel_rfl)).trans (show _ = .slice (some ⟨bM, oM, none⟩) n c9 from rfl)
              have ec : ∀ v, a'.eval (.const v) = v := fun _ => rfl
              clear hs hd
              unfold Oper.wp
              generalize a'.eval = ρ at e0 ec ⊢
              simp [go_sem, e0]
              exact hK _ _ (Below.refl _ _) rfl⟩) <|
                allOps_cons (fun a' w' hb hs hd => Or.inl ⟨wanted_n rfl, rg_op fun K hK => by
              have e0 := (hs.get 11 (by kernel_rfl)).trans (show _ = .int .i64 k from rfl)
              have ec : ∀ v, a'.eval (.const v) = v := fun _ => rfl
              clear hs hd
              unfold Oper.wp
              generalize a'.eval = ρ at e0 ec ⊢
              simp [go_sem, e0]
              exact hK _ _ (Below.refl _ _) rfl⟩) <|
                allOps_cons (fun a' w' hb hs hd => Or.inl ⟨wanted_n rfl, rg_op fun K hK => by
              have e0 := (show a'.eval (.tmp 87) = .slice (some ⟨bM, oM, none⟩) n c9 from hd.get 0 87 (by kernel_rfl) (by kernel_rfl))
              have e1 := (show a'.eval (.tmp 88) = .int .i64 k from hd.get 1 88 (by kernel_rfl) (by kernel_rfl))
              have ec : ∀ v, a'.eval (.const v) = v := fun _ => rfl
              clear hs hd
              unfold Oper.wp
              generalize a'.eval = ρ at e0 e1 ec ⊢
              simp [go_sem, e0, e1, g1, g2]
              exact hK _ _ (Below.refl _ _) rfl⟩) <|
                allOps_cons (fun a' w' hb hs hd => Or.inl ⟨wanted_n rfl, rg_op fun K hK => by
              have e0 := (show a'.eval (.tmp 89) = .pointer (some ⟨bM, oM + k * 2, none⟩) from hd.get 2 89 (by kernel_rfl) (by kernel_rfl))
              have ec : ∀ v, a'.eval (.const v) = v := fun _ => rfl
              clear hs hd
              unfold Oper.wp
              generalize a'.eval = ρ at e0 ec ⊢
              simp [go_sem, e0]
              exact hK _ _ (Below.refl _ _) rfl⟩) <|
                allOps_cons (fun a' w' hb hs hd => Or.inl ⟨wanted_n rfl, rg_op fun K hK => by
              have e0 := (show a'.eval (.tmp 90) = .pointer (some ⟨bM, oM + k * 2, none⟩) from hd.get 3 90 (by kernel_rfl) (by kernel_rfl))
              have ec : ∀ v, a'.eval (.const v) = v := fun _ => rfl
              have c0 := keep hb x0
              clear hs hd
              unfold Oper.wp
              generalize a'.eval = ρ at e0 ec ⊢
              simp [go_sem, e0, c0]
              exact hK _ _ (Below.refl _ _) rfl⟩) <|
                allOps_cons (fun a' w' hb hs hd => Or.inl ⟨wanted_n rfl, rg_op fun K hK => by
              have e0 := (hs.get 9 (by kernel_rfl)).trans (show _ = .slice (some ⟨bM, oM, none⟩) n c9 from rfl)
              have ec : ∀ v, a'.eval (.const v) = v := fun _ => rfl
              clear hs hd
              unfold Oper.wp
              generalize a'.eval = ρ at e0 ec ⊢
              simp [go_sem, e0]
              exact hK _ _ (Below.refl _ _) rfl⟩) <|
                allOps_cons (fun a' w' hb hs hd => Or.inl ⟨wanted_n rfl, rg_op fun K hK => by
              have e0 := (hs.get 11 (by kernel_rfl)).trans (show _ = .int .i64 k from rfl)
              have ec : ∀ v, a'.eval (.const v) = v := fun _ => rfl
              clear hs hd
              unfold Oper.wp
              generalize a'.eval = ρ at e0 ec ⊢
              simp [go_sem, e0]
              exact hK _ _ (Below.refl _ _) rfl⟩) <|
                allOps_cons (fun a' w' hb hs hd => Or.inl ⟨wanted_n rfl, rg_op fun K hK => by
              have e0 := (show a'.eval (.tmp 92) = .slice (some ⟨bM, oM, none⟩) n c9 from hd.get 5 92 (by kernel_rfl) (by kernel_rfl))
              have e1 := (show a'.eval (.tmp 93) = .int .i64 k from hd.get 6 93 (by kernel_rfl) (by kernel_rfl))
              have ec : ∀ v, a'.eval (.const v) = v := fun _ => rfl
              clear hs hd
              unfold Oper.wp
              generalize a'.eval = ρ at e0 e1 ec ⊢
              simp [go_sem, e0, e1, g1, g2]
              exact hK _ _ (Below.refl _ _) rfl⟩) <|
                allOps_cons (fun a' w' hb hs hd => Or.inl ⟨wanted_n rfl, rg_op fun K hK => by
              have e0 := (show a'.eval (.tmp 94) = .pointer (some ⟨bM, oM + k * 2, none⟩) from hd.get 7 94 (by kernel_rfl) (by kernel_rfl))
              have ec : ∀ v, a'.eval (.const v) = v := fun _ => rfl
              clear hs hd
              unfold Oper.wp
              generalize a'.eval = ρ at e0 ec ⊢
              simp [go_sem, e0]
              exact hK _ _ (Below.refl _ _) rfl⟩) <|
                allOps_cons (fun a' w' hb hs hd => Or.inl ⟨wanted_n rfl, rg_op fun K hK => by
              have e0 := (show a'.eval (.tmp 95) = .pointer (some ⟨bM, oM + k * 2 + 1, none⟩) from hd.get 8 95 (by kernel_rfl) (by kernel_rfl))
              have ec : ∀ v, a'.eval (.const v) = v := fun _ => rfl
              have c0 := keep hb x1
              clear hs hd
              unfold Oper.wp
              generalize a'.eval = ρ at e0 ec ⊢
              simp [go_sem, e0, c0]
              exact hK _ _ (Below.refl _ _) rfl⟩) <|
                allOps_cons (fun a' w' hb hs hd => Or.inl ⟨wanted_n rfl, by
              exact rg_fn (φ := (mpEq (.int .i64 si)).p) (vs := #[.int .i64 im]) rfl (enters_of Try.func82 (by kernel_rfl) rfl) (by simp [(show a'.eval (.tmp 96) = .int .i64 im from hd.get 9 96 (by kernel_rfl) (by kernel_rfl))]) ((HSZ.out w').mono (by rintro e w1 ⟨rfl, rfl⟩; exact ⟨_, rfl, Below.refl _ _, rfl⟩))⟩) <|
                allOps_cons (fun a' w' hb hs hd => Or.inl ⟨wanted_n rfl, rg_op fun K hK => by
              have e0 := (show a'.eval (.tmp 91) = .int .i64 re from hd.get 4 91 (by kernel_rfl) (by kernel_rfl))
              have e1 := (show a'.eval (.tmp 97) = .int .i64 si from hd.get 10 97 (by kernel_rfl) (by kernel_rfl))
              have ec : ∀ v, a'.eval (.const v) = v := fun _ => rfl
              clear hs hd
              unfold Oper.wp
              generalize a'.eval = ρ at e0 e1 ec ⊢
              simp [go_sem, e0, e1, hb1]
              exact hK _ _ (Below.refl _ _) rfl⟩) <|
                allOps_cons (fun a' w' hb hs hd => Or.inl ⟨wanted_n rfl, rg_op fun K hK => by
              have e0 := (show a'.eval (.tmp 98) = .bool false from hd.get 11 98 (by kernel_rfl) (by kernel_rfl))
              have ec : ∀ v, a'.eval (.const v) = v := fun _ => rfl
              clear hs hd
              unfold Oper.wp
              generalize a'.eval = ρ at e0 ec ⊢
              simp [go_sem, e0]
              exact hK _ _ (Below.refl _ _) rfl⟩) <|
                allOps_cons (fun a' w' hb hs hd => Or.inl ⟨wanted_t (j := 12) (d := 99) rfl (by kernel_rfl) (show a'.eval (.tmp 99) = .bool false from hd.get 12 99 (by kernel_rfl) (by kernel_rfl)), rg_op fun K hK => by
              have e0 := (hs.get 9 (by kernel_rfl)).trans (show _ = .slice (some ⟨bM, oM, none⟩) n c9 from rfl)
              have ec : ∀ v, a'.eval (.const v) = v := fun _ => rfl
              clear hs hd
              unfold Oper.wp
              generalize a'.eval = ρ at e0 ec ⊢
              simp [go_sem, e0]
              exact hK _ _ (Below.refl _ _) rfl⟩) <|
                allOps_cons (fun a' w' hb hs hd => Or.inl ⟨wanted_t (j := 12) (d := 99) rfl (by kernel_rfl) (show a'.eval (.tmp 99) = .bool false from hd.get 12 99 (by kernel_rfl) (by kernel_rfl)), rg_op fun K hK => by
              have e0 := (hs.get 11 (by kernel_rfl)).trans (show _ = .int .i64 k from rfl)
              have ec : ∀ v, a'.eval (.const v) = v := fun _ => rfl
              clear hs hd
              unfold Oper.wp
              generalize a'.eval = ρ at e0 ec ⊢
              simp [go_sem, e0]
              exact hK _ _ (Below.refl _ _) rfl⟩) <|
                allOps_cons (fun a' w' hb hs hd => Or.inl ⟨wanted_t (j := 12) (d := 99) rfl (by kernel_rfl) (show a'.eval (.tmp 99) = .bool false from hd.get 12 99 (by kernel_rfl) (by kernel_rfl)), rg_op fun K hK => by
              have e0 := (show a'.eval (.tmp 100) = .slice (some ⟨bM, oM, none⟩) n c9 from hd.get 13 100 (by kernel_rfl) (by kernel_rfl))
              have e1 := (show a'.eval (.tmp 101) = .int .i64 k from hd.get 14 101 (by kernel_rfl) (by kernel_rfl))
              have ec : ∀ v, a'.eval (.const v) = v := fun _ => rfl
              clear hs hd
              unfold Oper.wp
              generalize a'.eval = ρ at e0 e1 ec ⊢
              simp [go_sem, e0, e1, g1, g2]
              exact hK _ _ (Below.refl _ _) rfl⟩) <|
                allOps_cons (fun a' w' hb hs hd => Or.inl ⟨wanted_t (j := 12) (d := 99) rfl (by kernel_rfl) (show a'.eval (.tmp 99) = .bool false from hd.get 12 99 (by kernel_rfl) (by kernel_rfl)), rg_op fun K hK => by
              have e0 := (show a'.eval (.tmp 102) = .pointer (some ⟨bM, oM + k * 2, none⟩) from hd.get 15 102 (by kernel_rfl) (by kernel_rfl))
              have ec : ∀ v, a'.eval (.const v) = v := fun _ => rfl
              have c0 := keep hb x0
              have c1 := keep hb x1
              clear hs hd
              unfold Oper.wp
              generalize a'.eval = ρ at e0 ec ⊢
              simp [go_sem, e0, c0, c1]
              exact hK _ _ (Below.refl _ _) rfl⟩) <|
                allOps_cons (fun a' w' hb hs hd => Or.inl ⟨wanted_t (j := 12) (d := 99) rfl (by kernel_rfl) (show a'.eval (.tmp 99) = .bool false from hd.get 12 99 (by kernel_rfl) (by kernel_rfl)), by
              exact rg_fn (φ := (mpEq (.int .i64 nr)).p) (vs := #[.agg #[.int .i64 re, .int .i64 im]]) rfl (enters_of Try.func79 (by kernel_rfl) rfl) (by simp [(show a'.eval (.tmp 103) = .agg #[.int .i64 re, .int .i64 im] from hd.get 16 103 (by kernel_rfl) (by kernel_rfl))]) ((HGN.out w').mono (by rintro e w1 ⟨rfl, h1⟩; exact ⟨_, rfl, h1, rfl⟩))⟩) <|
                allOps_cons (fun a' w' hb hs hd => Or.inl ⟨wanted_t (j := 12) (d := 99) rfl (by kernel_rfl) (show a'.eval (.tmp 99) = .bool false from hd.get 12 99 (by kernel_rfl) (by kernel_rfl)), rg_op fun K hK => by
              have e0 := (hs.get 2 (by kernel_rfl)).trans (show _ = .int .i64 a from rfl)
              have ec : ∀ v, a'.eval (.const v) = v := fun _ => rfl
              clear hs hd
              unfold Oper.wp
              generalize a'.eval = ρ at e0 ec ⊢
              simp [go_sem, e0]
              exact hK _ _ (Below.refl _ _) rfl⟩) <|
                allOps_cons (fun a' w' hb hs hd => Or.inl ⟨wanted_t (j := 12) (d := 99) rfl (by kernel_rfl) (show a'.eval (.tmp 99) = .bool false from hd.get 12 99 (by kernel_rfl) (by kernel_rfl)), rg_op fun K hK => by
              have e0 := (hs.get 2 (by kernel_rfl)).trans (show _ = .int .i64 a from rfl)
              have ec : ∀ v, a'.eval (.const v) = v := fun _ => rfl
              clear hs hd
              unfold Oper.wp
              generalize a'.eval = ρ at e0 ec ⊢
              simp [go_sem, e0]
              exact hK _ _ (Below.refl _ _) rfl⟩) <|
                allOps_cons (fun a' w' hb hs hd => Or.inl ⟨wanted_t (j := 12) (d := 99) rfl (by kernel_rfl) (show a'.eval (.tmp 99) = .bool false from hd.get 12 99 (by kernel_rfl) (by kernel_rfl)), rg_op fun K hK => by
              have e0 := (show a'.eval (.tmp 105) = .int .i64 a from hd.get 18 105 (by kernel_rfl) (by kernel_rfl))
              have e1 := (show a'.eval (.tmp 106) = .int .i64 a from hd.get 19 106 (by kernel_rfl) (by kernel_rfl))
              have ec : ∀ v, a'.eval (.const v) = v := fun _ => rfl
              clear hs hd
              unfold Oper.wp
              generalize a'.eval = ρ at e0 e1 ec ⊢
              simp [go_sem, e0, e1, xa]
              exact hK _ _ (Below.refl _ _) rfl⟩) <|
                allOps_cons (fun a' w' hb hs hd => Or.inl ⟨wanted_t (j := 12) (d := 99) rfl (by kernel_rfl) (show a'.eval (.tmp 99) = .bool false from hd.get 12 99 (by kernel_rfl) (by kernel_rfl)), rg_op fun K hK => by
              have e0 := (show a'.eval (.tmp 104) = .int .i64 nr from hd.get 17 104 (by kernel_rfl) (by kernel_rfl))
              have e1 := (show a'.eval (.tmp 107) = .int .i64 (a * a) from hd.get 20 107 (by kernel_rfl) (by kernel_rfl))
              have ec : ∀ v, a'.eval (.const v) = v := fun _ => rfl
              clear hs hd
              unfold Oper.wp
              generalize a'.eval = ρ at e0 e1 ec ⊢
              simp [go_sem, e0, e1, hb2]
              exact hK _ _ (Below.refl _ _) rfl⟩) <|
                allOps_cons (fun a' w' hb hs hd => Or.inl ⟨wanted_n rfl, rg_op fun K hK => by
              have e0 := (show a'.eval (.tmp 99) = .bool false from hd.get 12 99 (by kernel_rfl) (by kernel_rfl))
              have e1 := (show a'.eval (.tmp 108) = .bool true from hd.get 21 108 (by kernel_rfl) (by kernel_rfl))
              have ec : ∀ v, a'.eval (.const v) = v := fun _ => rfl
              clear hs hd
              unfold Oper.wp
              generalize a'.eval = ρ at e0 e1 ec ⊢
              simp [go_sem, e0, e1, ec]
              exact hK _ _ (Below.refl _ _) rfl⟩) <| allOps_nil) (fun V v1 hv1 hall => ?_)
          have h109 : V 109 = .bool true := hall.get 22 rfl
          clear hall
          simp only [pp1, maskPut, Nat.reduceAdd]
          rw [h109]
          clear h109
          go_wp2
          go_ret
          exact ⟨rfl, belowT BV.out (belowT HB.out hv1)⟩
        · have hb2 : decide (nr < a * a) = false := by simpa using q2
          have HN2 := Lib.hid (HN.out q1 q2)
          go_wp2_with fail
          refine wp_region_gd [mpEq (.slice (some ⟨bM, oM, none⟩) n c9), mpEq (.int .i64 k), mpEq (.pointer (some ⟨bM, oM + k * 2, none⟩)), mpEq (.pointer (some ⟨bM, oM + k * 2, none⟩)), mpEq (.int .i64 re), mpEq (.slice (some ⟨bM, oM, none⟩) n c9), mpEq (.int .i64 k), mpEq (.pointer (some ⟨bM, oM + k * 2, none⟩)), mpEq (.pointer (some ⟨bM, oM + k * 2 + 1, none⟩)), mpEq (.int .i64 im), mpEq (.int .i64 si), mpEq (.bool false), mpEq (.bool false), mpEq (.slice (some ⟨bM, oM, none⟩) n c9), mpEq (.int .i64 k), mpEq (.pointer (some ⟨bM, oM + k * 2, none⟩)), mpEq (.agg #[.int .i64 re, .int .i64 im]), mpEq (.int .i64 nr), mpEq (.int .i64 a), mpEq (.int .i64 a), mpEq (.int .i64 (a * a)), mpEq (.bool false), mpEq (.bool false)] pp1 (by kernel_rfl) (by kernel_rfl) (by kernel_rfl) (
                allOps_cons (fun a' w' hb hs hd => Or.inl ⟨wanted_n rfl, rg_op fun K hK => by
              have e0 := (hs.get 9 (by kernel_rfl)).trans (show _ = .slice (some ⟨bM, oM, none⟩) n c9 from rfl)
              have ec : ∀ v, a'.eval (.const v) = v := fun _ => rfl
              clear hs hd
              unfold Oper.wp
              generalize a'.eval = ρ at e0 ec ⊢
              simp [go_sem, e0]
              exact hK _ _ (Below.refl _ _) rfl⟩) <|
                allOps_cons (fun a' w' hb hs hd => Or.inl ⟨wanted_n rfl, rg_op fun K hK => by
              have e0 := (hs.get 11 (by kernel_rfl)).trans (show _ = .int .i64 k from rfl)
              have ec : ∀ v, a'.eval (.const v) = v := fun _ => rfl
              clear hs hd
              unfold Oper.wp
              generalize a'.eval = ρ at e0 ec ⊢
              simp [go_sem, e0]
              exact hK _ _ (Below.refl _ _) rfl⟩) <|
                allOps_cons (fun a' w' hb hs hd => Or.inl ⟨wanted_n rfl, rg_op fun K hK => by
              have e0 := (show a'.eval (.tmp 87) = .slice (some ⟨bM, oM, none⟩) n c9 from hd.get 0 87 (by kernel_rfl) (by kernel_rfl))
              have e1 := (show a'.eval (.tmp 88) = .int .i64 k from hd.get 1 88 (by kernel_rfl) (by kernel_rfl))
              have ec : ∀ v, a'.eval (.const v) = v := fun _ => rfl
              clear hs hd
              unfold Oper.wp
              generalize a'.eval = ρ at e0 e1 ec ⊢
              simp [go_sem, e0, e1, g1, g2]
              exact hK _ _ (Below.refl _ _) rfl⟩) <|
                allOps_cons (fun a' w' hb hs hd => Or.inl ⟨wanted_n rfl, rg_op fun K hK => by
              have e0 := (show a'.eval (.tmp 89) = .pointer (some ⟨bM, oM + k * 2, none⟩) from hd.get 2 89 (by kernel_rfl) (by kernel_rfl))
              have ec : ∀ v, a'.eval (.const v) = v := fun _ => rfl
              clear hs hd
              unfold Oper.wp
              generalize a'.eval = ρ at e0 ec ⊢
              simp [go_sem, e0]
              exact hK _ _ (Below.refl _ _) rfl⟩) <|
                allOps_cons (fun a' w' hb hs hd => Or.inl ⟨wanted_n rfl, rg_op fun K hK => by
              have e0 := (show a'.eval (.tmp 90) = .pointer (some ⟨bM, oM + k * 2, none⟩) from hd.get 3 90 (by kernel_rfl) (by kernel_rfl))
              have ec : ∀ v, a'.eval (.const v) = v := fun _ => rfl
              have c0 := keep hb x0
              clear hs hd
              unfold Oper.wp
              generalize a'.eval = ρ at e0 ec ⊢
              simp [go_sem, e0, c0]
              exact hK _ _ (Below.refl _ _) rfl⟩) <|
                allOps_cons (fun a' w' hb hs hd => Or.inl ⟨wanted_n rfl, rg_op fun K hK => by
              have e0 := (hs.get 9 (by kernel_rfl)).trans (show _ = .slice (some ⟨bM, oM, none⟩) n c9 from rfl)
              have ec : ∀ v, a'.eval (.const v) = v := fun _ => rfl
              clear hs hd
              unfold Oper.wp
              generalize a'.eval = ρ at e0 ec ⊢
              simp [go_sem, e0]
              exact hK _ _ (Below.refl _ _) rfl⟩) <|
                allOps_cons (fun a' w' hb hs hd => Or.inl ⟨wanted_n rfl, rg_op fun K hK => by
              have e0 := (hs.get 11 (by kernel_rfl)).trans (show _ = .int .i64 k from rfl)
              have ec : ∀ v, a'.eval (.const v) = v := fun _ => rfl
              clear hs hd
              unfold Oper.wp
              generalize a'.eval = ρ at e0 ec ⊢
              simp [go_sem, e0]
              exact hK _ _ (Below.refl _ _) rfl⟩) <|
                allOps_cons (fun a' w' hb hs hd => Or.inl ⟨wanted_n rfl, rg_op fun K hK => by
              have e0 := (show a'.eval (.tmp 92) = .slice (some ⟨bM, oM, none⟩) n c9 from hd.get 5 92 (by kernel_rfl) (by kernel_rfl))
              have e1 := (show a'.eval (.tmp 93) = .int .i64 k from hd.get 6 93 (by kernel_rfl) (by kernel_rfl))
              have ec : ∀ v, a'.eval (.const v) = v := fun _ => rfl
              clear hs hd
              unfold Oper.wp
              generalize a'.eval = ρ at e0 e1 ec ⊢
              simp [go_sem, e0, e1, g1, g2]
              exact hK _ _ (Below.refl _ _) rfl⟩) <|
                allOps_cons (fun a' w' hb hs hd => Or.inl ⟨wanted_n rfl, rg_op fun K hK => by
              have e0 := (show a'.eval (.tmp 94) = .pointer (some ⟨bM, oM + k * 2, none⟩) from hd.get 7 94 (by kernel_rfl) (by kernel_rfl))
              have ec : ∀ v, a'.eval (.const v) = v := fun _ => rfl
              clear hs hd
              unfold Oper.wp
              generalize a'.eval = ρ at e0 ec ⊢
              simp [go_sem, e0]
              exact hK _ _ (Below.refl _ _) rfl⟩) <|
                allOps_cons (fun a' w' hb hs hd => Or.inl ⟨wanted_n rfl, rg_op fun K hK => by
              have e0 := (show a'.eval (.tmp 95) = .pointer (some ⟨bM, oM + k * 2 + 1, none⟩) from hd.get 8 95 (by kernel_rfl) (by kernel_rfl))
              have ec : ∀ v, a'.eval (.const v) = v := fun _ => rfl
              have c0 := keep hb x1
              clear hs hd
              unfold Oper.wp
              generalize a'.eval = ρ at e0 ec ⊢
              simp [go_sem, e0, c0]
              exact hK _ _ (Below.refl _ _) rfl⟩) <|
                allOps_cons (fun a' w' hb hs hd => Or.inl ⟨wanted_n rfl, by
              exact rg_fn (φ := (mpEq (.int .i64 si)).p) (vs := #[.int .i64 im]) rfl (enters_of Try.func82 (by kernel_rfl) rfl) (by simp [(show a'.eval (.tmp 96) = .int .i64 im from hd.get 9 96 (by kernel_rfl) (by kernel_rfl))]) ((HSZ.out w').mono (by rintro e w1 ⟨rfl, rfl⟩; exact ⟨_, rfl, Below.refl _ _, rfl⟩))⟩) <|
                allOps_cons (fun a' w' hb hs hd => Or.inl ⟨wanted_n rfl, rg_op fun K hK => by
              have e0 := (show a'.eval (.tmp 91) = .int .i64 re from hd.get 4 91 (by kernel_rfl) (by kernel_rfl))
              have e1 := (show a'.eval (.tmp 97) = .int .i64 si from hd.get 10 97 (by kernel_rfl) (by kernel_rfl))
              have ec : ∀ v, a'.eval (.const v) = v := fun _ => rfl
              clear hs hd
              unfold Oper.wp
              generalize a'.eval = ρ at e0 e1 ec ⊢
              simp [go_sem, e0, e1, hb1]
              exact hK _ _ (Below.refl _ _) rfl⟩) <|
                allOps_cons (fun a' w' hb hs hd => Or.inl ⟨wanted_n rfl, rg_op fun K hK => by
              have e0 := (show a'.eval (.tmp 98) = .bool false from hd.get 11 98 (by kernel_rfl) (by kernel_rfl))
              have ec : ∀ v, a'.eval (.const v) = v := fun _ => rfl
              clear hs hd
              unfold Oper.wp
              generalize a'.eval = ρ at e0 ec ⊢
              simp [go_sem, e0]
              exact hK _ _ (Below.refl _ _) rfl⟩) <|
                allOps_cons (fun a' w' hb hs hd => Or.inl ⟨wanted_t (j := 12) (d := 99) rfl (by kernel_rfl) (show a'.eval (.tmp 99) = .bool false from hd.get 12 99 (by kernel_rfl) (by kernel_rfl)), rg_op fun K hK => by
              have e0 := (hs.get 9 (by kernel_rfl)).trans (show _ = .slice (some ⟨bM, oM, none⟩) n c9 from rfl)
              have ec : ∀ v, a'.eval (.const v) = v := fun _ => rfl
              clear hs hd
              unfold Oper.wp
              generalize a'.eval = ρ at e0 ec ⊢
              simp [go_sem, e0]
              exact hK _ _ (Below.refl _ _) rfl⟩) <|
                allOps_cons (fun a' w' hb hs hd => Or.inl ⟨wanted_t (j := 12) (d := 99) rfl (by kernel_rfl) (show a'.eval (.tmp 99) = .bool false from hd.get 12 99 (by kernel_rfl) (by kernel_rfl)), rg_op fun K hK => by
              have e0 := (hs.get 11 (by kernel_rfl)).trans (show _ = .int .i64 k from rfl)
              have ec : ∀ v, a'.eval (.const v) = v := fun _ => rfl
              clear hs hd
              unfold Oper.wp
              generalize a'.eval = ρ at e0 ec ⊢
              simp [go_sem, e0]
              exact hK _ _ (Below.refl _ _) rfl⟩) <|
                allOps_cons (fun a' w' hb hs hd => Or.inl ⟨wanted_t (j := 12) (d := 99) rfl (by kernel_rfl) (show a'.eval (.tmp 99) = .bool false from hd.get 12 99 (by kernel_rfl) (by kernel_rfl)), rg_op fun K hK => by
              have e0 := (show a'.eval (.tmp 100) = .slice (some ⟨bM, oM, none⟩) n c9 from hd.get 13 100 (by kernel_rfl) (by kernel_rfl))
              have e1 := (show a'.eval (.tmp 101) = .int .i64 k from hd.get 14 101 (by kernel_rfl) (by kernel_rfl))
              have ec : ∀ v, a'.eval (.const v) = v := fun _ => rfl
              clear hs hd
              unfold Oper.wp
              generalize a'.eval = ρ at e0 e1 ec ⊢
              simp [go_sem, e0, e1, g1, g2]
              exact hK _ _ (Below.refl _ _) rfl⟩) <|
                allOps_cons (fun a' w' hb hs hd => Or.inl ⟨wanted_t (j := 12) (d := 99) rfl (by kernel_rfl) (show a'.eval (.tmp 99) = .bool false from hd.get 12 99 (by kernel_rfl) (by kernel_rfl)), rg_op fun K hK => by
              have e0 := (show a'.eval (.tmp 102) = .pointer (some ⟨bM, oM + k * 2, none⟩) from hd.get 15 102 (by kernel_rfl) (by kernel_rfl))
              have ec : ∀ v, a'.eval (.const v) = v := fun _ => rfl
              have c0 := keep hb x0
              have c1 := keep hb x1
              clear hs hd
              unfold Oper.wp
              generalize a'.eval = ρ at e0 ec ⊢
              simp [go_sem, e0, c0, c1]
              exact hK _ _ (Below.refl _ _) rfl⟩) <|
                allOps_cons (fun a' w' hb hs hd => Or.inl ⟨wanted_t (j := 12) (d := 99) rfl (by kernel_rfl) (show a'.eval (.tmp 99) = .bool false from hd.get 12 99 (by kernel_rfl) (by kernel_rfl)), by
              exact rg_fn (φ := (mpEq (.int .i64 nr)).p) (vs := #[.agg #[.int .i64 re, .int .i64 im]]) rfl (enters_of Try.func79 (by kernel_rfl) rfl) (by simp [(show a'.eval (.tmp 103) = .agg #[.int .i64 re, .int .i64 im] from hd.get 16 103 (by kernel_rfl) (by kernel_rfl))]) ((HGN.out w').mono (by rintro e w1 ⟨rfl, h1⟩; exact ⟨_, rfl, h1, rfl⟩))⟩) <|
                allOps_cons (fun a' w' hb hs hd => Or.inl ⟨wanted_t (j := 12) (d := 99) rfl (by kernel_rfl) (show a'.eval (.tmp 99) = .bool false from hd.get 12 99 (by kernel_rfl) (by kernel_rfl)), rg_op fun K hK => by
              have e0 := (hs.get 2 (by kernel_rfl)).trans (show _ = .int .i64 a from rfl)
              have ec : ∀ v, a'.eval (.const v) = v := fun _ => rfl
              clear hs hd
              unfold Oper.wp
              generalize a'.eval = ρ at e0 ec ⊢
              simp [go_sem, e0]
              exact hK _ _ (Below.refl _ _) rfl⟩) <|
                allOps_cons (fun a' w' hb hs hd => Or.inl ⟨wanted_t (j := 12) (d := 99) rfl (by kernel_rfl) (show a'.eval (.tmp 99) = .bool false from hd.get 12 99 (by kernel_rfl) (by kernel_rfl)), rg_op fun K hK => by
              have e0 := (hs.get 2 (by kernel_rfl)).trans (show _ = .int .i64 a from rfl)
              have ec : ∀ v, a'.eval (.const v) = v := fun _ => rfl
              clear hs hd
              unfold Oper.wp
              generalize a'.eval = ρ at e0 ec ⊢
              simp [go_sem, e0]
              exact hK _ _ (Below.refl _ _) rfl⟩) <|
                allOps_cons (fun a' w' hb hs hd => Or.inl ⟨wanted_t (j := 12) (d := 99) rfl (by kernel_rfl) (show a'.eval (.tmp 99) = .bool false from hd.get 12 99 (by kernel_rfl) (by kernel_rfl)), rg_op fun K hK => by
              have e0 := (show a'.eval (.tmp 105) = .int .i64 a from hd.get 18 105 (by kernel_rfl) (by kernel_rfl))
              have e1 := (show a'.eval (.tmp 106) = .int .i64 a from hd.get 19 106 (by kernel_rfl) (by kernel_rfl))
              have ec : ∀ v, a'.eval (.const v) = v := fun _ => rfl
              clear hs hd
              unfold Oper.wp
              generalize a'.eval = ρ at e0 e1 ec ⊢
              simp [go_sem, e0, e1, xa]
              exact hK _ _ (Below.refl _ _) rfl⟩) <|
                allOps_cons (fun a' w' hb hs hd => Or.inl ⟨wanted_t (j := 12) (d := 99) rfl (by kernel_rfl) (show a'.eval (.tmp 99) = .bool false from hd.get 12 99 (by kernel_rfl) (by kernel_rfl)), rg_op fun K hK => by
              have e0 := (show a'.eval (.tmp 104) = .int .i64 nr from hd.get 17 104 (by kernel_rfl) (by kernel_rfl))
              have e1 := (show a'.eval (.tmp 107) = .int .i64 (a * a) from hd.get 20 107 (by kernel_rfl) (by kernel_rfl))
              have ec : ∀ v, a'.eval (.const v) = v := fun _ => rfl
              clear hs hd
              unfold Oper.wp
              generalize a'.eval = ρ at e0 e1 ec ⊢
              simp [go_sem, e0, e1, hb2]
              exact hK _ _ (Below.refl _ _) rfl⟩) <|
                allOps_cons (fun a' w' hb hs hd => Or.inl ⟨wanted_n rfl, rg_op fun K hK => by
              have e0 := (show a'.eval (.tmp 99) = .bool false from hd.get 12 99 (by kernel_rfl) (by kernel_rfl))
              have e1 := (show a'.eval (.tmp 108) = .bool false from hd.get 21 108 (by kernel_rfl) (by kernel_rfl))
              have ec : ∀ v, a'.eval (.const v) = v := fun _ => rfl
              clear hs hd
              unfold Oper.wp
              generalize a'.eval = ρ at e0 e1 ec ⊢
              simp [go_sem, e0, e1, ec]
              exact hK _ _ (Below.refl _ _) rfl⟩) <| allOps_nil) (fun V v1 hv1 hall => ?_)
          have h109 : V 109 = .bool false := hall.get 22 rfl
          clear hall
          simp only [pp1, maskPut, Nat.reduceAdd]
          rw [h109]
          clear h109
          have HB1 := Lib.hid (belowT HB.out hv1)
          clear hv1
          go_wp2
          go_roundw
          case rel => exact ⟨k + 1, by omega, by go_num, HB1.out, HN2.out⟩
          case measure => simp [intOf]; omega
    · obtain rfl : k = n := by omega
      have hmv := HHI.out HI.out
      have T9b := Lib.hid (T9.out.bel HB.out)
      have HB5 := Lib.hid (belowT BV.out HB.out)
      clear HI HHI BV HB T9
      generalize nrm (X, Y) = nb at *
      go_wp2_with (first
        | (go_at_call 72; (with_reducible refine Calls.mono (HBO.out _ _ _ T9b.out) ?_); rintro e yx ⟨rfl, hbx⟩; replace HB5 := Lib.hid (belowT HB5.out hbx); clear hbx)
        | (go_at_call 70; (with_reducible refine Calls.mono (HGE.out _) ?_); rintro e yy ⟨rfl, hby⟩; have p0 := keep hby (b := yx.heap.size) (o := 0) (v := .int .i64 X) (by simp [go_sem]); have p1 := keep hby (b := yx.heap.size) (o := 1) (v := .int .i64 Y) (by simp [go_sem]); have HB6 := Lib.hid (belowT (show Below w.heap.size w _ by have Bq := HB5.out; have Bz := Bq.size; (repeat (first | with_reducible exact Below.refl _ _ | with_reducible assumption | with_reducible refine Below.alloc ?_ (by first | (simp; done) | (simp; omega) | omega) _ | with_reducible refine Below.setCell ?_ (by first | (simp; done) | (simp; omega) | omega) _ | with_reducible refine Below.drew ?_ | with_reducible refine below_drewN ?_ _))) hby); clear hby)
        | (go_at_call 79; (with_reducible refine Calls.mono (HGB.out _) ?_); rintro e yz ⟨rfl, hbz⟩; replace HB6 := Lib.hid (belowT HB6.out hbz); clear hbz))
      go_ret
      exact ⟨rfl, HB6.out⟩
end Go.Proofs.Ytpkacfgmojblbaa
