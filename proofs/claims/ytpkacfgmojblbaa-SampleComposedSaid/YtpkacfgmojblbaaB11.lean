/- Helpers: programs: the reference, the phase at an index. No condition but the hypotheses that each theorem names. -/
import Derived.Test.YtpkacfgmojblbaaB10
import Derived.Test.YtpkacfgmojblbaaB06
import Derived.Deep.CutRange
namespace Go.Proofs.Ytpkacfgmojblbaa
open Go.RowKit
attribute [local go_sem] old1 fro1 old2 fro2 old3 fro3 old4 fro4 old5 fro5 old6 fro6 old7 fro7 old8 fro8 old9 fro9 old10 fro10 old11 fro11 old12 fro12
set_option maxRecDepth 100000 in
set_option maxHeartbeats 800000 in
theorem phaseAtR_any (ph inc ch n : Int) (hp : (0 ≤ ph ∧ ph ≤ 4095) ∧ (-4096 ≤ inc ∧ inc ≤ 4096) ∧ -4096 ≤ ch ∧ ch ≤ 4096) (n0 : 0 ≤ n) (n1 : n ≤ 1000000) (w : World) :
    Calls Try.prog 45 #[.agg #[.int .i64 ph, .int .i64 inc, .int .i64 ch], .int .i64 n] w fun e w' => e = .returned (.int .i64 (phs ph inc ch n)) ∧ Below w.heap.size w w' := by
  obtain ⟨⟨f1, f2⟩, ⟨f3, f4⟩, f5, f6⟩ := ph_facts hp n0 n1
  have HM := fun W => Lib.hid (bmod_any (ph + n * inc + n * (n - 1) / 2 * ch) 4096 (by omega) (by omega) W)
  have w1 : IntKind.i64.wrap (n * inc) = n * inc := IntWalk.i64_in _ (by omega)
  have w2 : IntKind.i64.wrap (ph + n * inc) = ph + n * inc := IntWalk.i64_in _ (by omega)
  have w3 : IntKind.i64.wrap (n - 1) = n - 1 := IntWalk.i64_in _ (by omega)
  have w4 : IntKind.i64.wrap (n * (n - 1)) = n * (n - 1) := IntWalk.i64_in _ (by omega)
  have w5 : (n * (n - 1)).tdiv 2 = n * (n - 1) / 2 := Int.tdiv_eq_ediv_of_nonneg f3
  have w6 : IntKind.i64.wrap (n * (n - 1) / 2) = n * (n - 1) / 2 := IntWalk.i64_in _ (by omega)
  have w7 : IntKind.i64.wrap (n * (n - 1) / 2 * ch) = n * (n - 1) / 2 * ch := IntWalk.i64_in _ (by omega)
  have w8 : IntKind.i64.wrap (ph + n * inc + n * (n - 1) / 2 * ch) = ph + n * inc + n * (n - 1) / 2 * ch := IntWalk.i64_in _ (by omega)
  clear f1 f2 f3 f4 f5 f6 hp
  go_enter Try.func45, Try.ntmps45
  go_wp2_with (go_at_call 37; (with_reducible refine Calls.mono (HM _).out ?_); rintro e w1 ⟨rfl, rfl⟩)
  go_ret
  exact ⟨rfl, by (repeat (first | with_reducible exact Below.refl _ _ | with_reducible assumption | with_reducible refine Below.alloc ?_ (by first | (simp; done) | (simp; omega) | omega) _ | with_reducible refine Below.setCell ?_ (by first | (simp; done) | (simp; omega) | omega) _ | with_reducible refine Below.drew ?_ | with_reducible refine below_drewN ?_ _))⟩
set_option maxRecDepth 100000 in
set_option maxHeartbeats 800000 in
theorem bfloor_pos (n d : Int) (hd : 0 < d) (h0 : 0 ≤ n) (h1 : n ≤ 1000000000000000) (w : World) :
    Calls Try.prog 104 #[.int .i64 n, .int .i64 d] w fun e w' => e = .returned (.int .i64 (n / d)) ∧ w = w' := by
  have hd0 : (d == 0) = false := by simp; omega
  have e1 := Int.tdiv_eq_ediv_of_nonneg (b := d) h0
  have e2 := Int.tmod_eq_emod_of_nonneg (b := d) h0
  have e3 := Int.emod_nonneg n (show d ≠ 0 by omega)
  have e4 : n / d ≤ n := Int.ediv_le_self d h0
  have e5 : 0 ≤ n / d := Int.ediv_nonneg h0 (by omega)
  have e6 : n % d ≤ n := by have := Int.emod_add_mul_ediv n d; have := Int.mul_nonneg (show (0 : Int) ≤ d by omega) e5; omega
  have x1 : IntKind.i64.wrap (n / d) = n / d := IntWalk.i64_in _ (by omega)
  have x2 : IntKind.i64.wrap (n % d) = n % d := IntWalk.i64_in _ (by omega)
  have g1 : ¬ n % d < 0 := by omega
  go_enter Try.func104, Try.ntmps104
  go_wp2
  go_ret
  exact ⟨rfl, rfl⟩
set_option maxRecDepth 100000 in
set_option maxHeartbeats 800000 in
theorem turnAtR_any (ph inc ch n : Int) (hp : (0 ≤ ph ∧ ph ≤ 4095) ∧ (-4096 ≤ inc ∧ inc ≤ 4096) ∧ -4096 ≤ ch ∧ ch ≤ 4096) (n0 : 0 ≤ n) (n1 : n ≤ 1000000) (w : World) :
    Calls Try.prog 43 #[.agg #[.int .i64 ph, .int .i64 inc, .int .i64 ch], .int .i64 n] w fun e w' => e = .returned (.int .i64 (trn ph inc ch n)) ∧ Below w.heap.size w w' := by
  have HP := Lib.hid (fun W => phaseAtR_any ph inc ch n hp n0 n1 W)
  obtain ⟨b1, b2⟩ := phs_bd ph inc ch n
  have hT : trn ph inc ch n = (phs ph inc ch n + 512) / 1024 % 4 := rfl
  generalize phs ph inc ch n = x at *
  have w1 : IntKind.i64.wrap (x + 512) = x + 512 := IntWalk.i64_in _ (by omega)
  have HF := Lib.hid (fun W => bfloor_pos (x + 512) 1024 (by omega) (by omega) (by omega) W)
  have HM := Lib.hid (fun W => bmod_any ((x + 512) / 1024) 4 (by omega) (by omega) W)
  clear b1 b2
  go_enter Try.func43, Try.ntmps43
  go_wp2_with (first
    | (go_at_call 45; (with_reducible refine Calls.mono (HP.out _) ?_); rintro e w1 ⟨rfl, hb1⟩; have B1 := Lib.hid (belowT (show Below w.heap.size w _ by (repeat (first | with_reducible exact Below.refl _ _ | with_reducible assumption | with_reducible refine Below.alloc ?_ (by first | (simp; done) | (simp; omega) | omega) _ | with_reducible refine Below.setCell ?_ (by first | (simp; done) | (simp; omega) | omega) _ | with_reducible refine Below.drew ?_ | with_reducible refine below_drewN ?_ _))) hb1); clear hb1)
    | (go_at_call 104; (with_reducible refine Calls.mono (HF.out _) ?_); rintro e w2 ⟨rfl, rfl⟩)
    | (go_at_call 37; (with_reducible refine Calls.mono (HM.out _) ?_); rintro e w2 ⟨rfl, rfl⟩))
  go_ret
  exact ⟨ret_int hT.symm, B1.out⟩
theorem indexErr_any (n : Int) (w : World) : Calls Try.prog 44 #[.int .i64 n] w fun e w' => e = .returned (.int .i64 (rgE n 0 1000000)) ∧ w = w' := by
  have h0 : rgE n 0 1000000 = if wi n 0 1000000 then 0 else 2 := rfl
  cases h : wi n 0 1000000 <;> rw [h] at h0 <;> rw [h0] <;> clear h0 <;>
  · go_enter Try.func44, Try.ntmps44
    go_wp2_with (go_at_call 21; (with_reducible refine Calls.mono (bwithin_any _ _ _ _) ?_); rintro e w1 ⟨rfl, rfl⟩)
    go_ret
    exact ⟨rfl, rfl⟩

set_option maxRecDepth 100000 in
set_option maxHeartbeats 800000 in
theorem programErr_any (ph inc ch : Int) (w : World) : Calls Try.prog 41 #[.agg #[.int .i64 ph, .int .i64 inc, .int .i64 ch]] w fun e w' => e = .returned (.int .i64 (prgE ph inc ch)) ∧ Below w.heap.size w w' := by
  cases h1 : wi ph 0 4095
  · have hp : prgE ph inc ch = 2 := by unfold prgE rgE; rw [h1]; rfl
    rw [hp]
    clear hp
    go_enter Try.func41, Try.ntmps41
    go_wp2_with (go_at_call 21; (with_reducible refine Calls.mono (bwithin_any _ _ _ _) ?_); rintro e w1 ⟨rfl, rfl⟩)
    go_ret
    exact ⟨rfl, by (repeat (first | with_reducible exact Below.refl _ _ | with_reducible assumption | with_reducible refine Below.alloc ?_ (by first | (simp; done) | (simp; omega) | omega) _ | with_reducible refine Below.setCell ?_ (by first | (simp; done) | (simp; omega) | omega) _ | with_reducible refine Below.drew ?_ | with_reducible refine below_drewN ?_ _))⟩
  · cases h2 : wi inc (-4096) 4096
    · have hp : prgE ph inc ch = 2 := by unfold prgE rgE; rw [h1, h2]; rfl
      rw [hp]
      clear hp
      go_enter Try.func41, Try.ntmps41
      go_wp2_with (go_at_call 21; (with_reducible refine Calls.mono (bwithin_any _ _ _ _) ?_); rintro e w1 ⟨rfl, rfl⟩)
      go_ret
      exact ⟨rfl, by (repeat (first | with_reducible exact Below.refl _ _ | with_reducible assumption | with_reducible refine Below.alloc ?_ (by first | (simp; done) | (simp; omega) | omega) _ | with_reducible refine Below.setCell ?_ (by first | (simp; done) | (simp; omega) | omega) _ | with_reducible refine Below.drew ?_ | with_reducible refine below_drewN ?_ _))⟩
    · cases h3 : wi ch (-4096) 4096
      · have hp : prgE ph inc ch = 2 := by unfold prgE rgE; rw [h1, h2, h3]; rfl
        rw [hp]
        clear hp
        go_enter Try.func41, Try.ntmps41
        go_wp2_with (go_at_call 21; (with_reducible refine Calls.mono (bwithin_any _ _ _ _) ?_); rintro e w1 ⟨rfl, rfl⟩)
        go_ret
        exact ⟨rfl, by (repeat (first | with_reducible exact Below.refl _ _ | with_reducible assumption | with_reducible refine Below.alloc ?_ (by first | (simp; done) | (simp; omega) | omega) _ | with_reducible refine Below.setCell ?_ (by first | (simp; done) | (simp; omega) | omega) _ | with_reducible refine Below.drew ?_ | with_reducible refine below_drewN ?_ _))⟩
      · have hp : prgE ph inc ch = 0 := by unfold prgE rgE; rw [h1, h2, h3]; rfl
        rw [hp]
        clear hp
        go_enter Try.func41, Try.ntmps41
        go_wp2_with (go_at_call 21; (with_reducible refine Calls.mono (bwithin_any _ _ _ _) ?_); rintro e w1 ⟨rfl, rfl⟩)
        go_ret
        exact ⟨rfl, by (repeat (first | with_reducible exact Below.refl _ _ | with_reducible assumption | with_reducible refine Below.alloc ?_ (by first | (simp; done) | (simp; omega) | omega) _ | with_reducible refine Below.setCell ?_ (by first | (simp; done) | (simp; omega) | omega) _ | with_reducible refine Below.drew ?_ | with_reducible refine below_drewN ?_ _))⟩

set_option maxRecDepth 100000 in
set_option maxHeartbeats 800000 in
theorem indexCheck_chk (n : Int) (w : World) : Calls Try.prog 100 #[.int .i64 n] w fun e w' => ∃ v, e = .returned v ∧ Below w.heap.size w w' ∧ Chk True (rgE n 0 1000000) v w' := by
  have HR := Lib.hid (fun W => range_chk n 0 1000000 W)
  go_enter Try.func100, Try.ntmps100
  go_wp2_with (go_at_call 88; (with_reducible refine Calls.mono (HR.out _) ?_); rintro e w1 ⟨v, rfl, hb1, hc1⟩; have B1 := Lib.hid (belowT (show Below w.heap.size w _ by (repeat (first | with_reducible exact Below.refl _ _ | with_reducible assumption | with_reducible refine Below.alloc ?_ (by first | (simp; done) | (simp; omega) | omega) _ | with_reducible refine Below.setCell ?_ (by first | (simp; done) | (simp; omega) | omega) _ | with_reducible refine Below.drew ?_ | with_reducible refine below_drewN ?_ _))) hb1); have K1 := Lib.hid hc1; clear hb1 hc1)
  go_ret
  exact ⟨v, rfl, B1.out, K1.out⟩
def ixE (ph inc ch n : Int) : Int := fs2 (prgE ph inc ch) (rgE n 0 1000000)
set_option maxRecDepth 100000 in
set_option maxHeartbeats 800000 in
theorem phaseAtS_any (ph inc ch n : Int) (w : World) :
    Calls Try.prog 38 #[.agg #[.int .i64 ph, .int .i64 inc, .int .i64 ch], .int .i64 n] w fun e w' => e = .returned (.tuple #[.int .i64 (if ixE ph inc ch n = 0 then phs ph inc ch n else 0), .int .i64 (ixE ph inc ch n)]) ∧ Below w.heap.size w w' := by
  have HPC := Lib.hid (fun W => programCheck_chk ph inc ch W)
  have HRG := Lib.hid (fun W => indexCheck_chk n W)
  obtain ⟨E, hE⟩ : ∃ E, fs2 (prgE ph inc ch) (rgE n 0 1000000) = E := ⟨_, rfl⟩
  have hm : ixE ph inc ch n = E := hE
  rw [hm]
  by_cases h0 : E = 0
  · rw [if_pos h0]
    subst h0
    obtain ⟨q1, q2⟩ := fs2_0 hE
    obtain ⟨n0, n1⟩ := rg_0 q2
    have HP := Lib.hid (fun W => phaseAt_any ph inc ch n (prg_0 q1) n0 n1 W)
    clear q1 q2 n0 n1 hm
    generalize phs ph inc ch n = x at *
    go_enter Try.func38, Try.ntmps38
    go_wp2_with (first
      | (go_at_call 99; (with_reducible refine Calls.mono (HPC.out _) ?_); rintro e y1 ⟨v0, rfl, hb1, g0, f0, rfl, hg0, hh0⟩; have BV := Lib.hid (belowT (show Below w.heap.size w _ by (repeat (first | with_reducible exact Below.refl _ _ | with_reducible assumption | with_reducible refine Below.alloc ?_ (by first | (simp; done) | (simp; omega) | omega) _ | with_reducible refine Below.setCell ?_ (by first | (simp; done) | (simp; omega) | omega) _ | with_reducible refine Below.drew ?_ | with_reducible refine below_drewN ?_ _))) hb1); have l0 := keep hb1 (b := w.heap.size) (o := 0) (v := .int .i64 ph) (by simp [go_sem]); have l1 := keep hb1 (b := w.heap.size) (o := 1) (v := .int .i64 inc) (by simp [go_sem]); have l2 := keep hb1 (b := w.heap.size) (o := 2) (v := .int .i64 ch) (by simp [go_sem]); have K0 := Lib.hid (show Chk True _ (.func (.func g0) #[] f0) y1 from ⟨g0, f0, rfl, hg0, hh0⟩); clear hg0 hh0; clear hb1)
      | (go_at_call 100; (with_reducible refine Calls.mono (HRG.out _) ?_); rintro e y2 ⟨v1, rfl, hb2, g1, f1, rfl, hg1, hh1⟩; replace l0 := keep hb2 l0; replace l1 := keep hb2 l1; replace l2 := keep hb2 l2; replace BV := Lib.hid (belowT (show Below w.heap.size w _ by have Bq := BV.out; (repeat (first | with_reducible exact Below.refl _ _ | with_reducible assumption | with_reducible refine Below.alloc ?_ (by first | (simp; done) | (simp; omega) | omega) _ | with_reducible refine Below.setCell ?_ (by first | (simp; done) | (simp; omega) | omega) _ | with_reducible refine Below.drew ?_ | with_reducible refine below_drewN ?_ _))) hb2); have K1 := Lib.hid (show Chk True _ (.func (.func g1) #[] f1) y2 from ⟨g1, f1, rfl, hg1, hh1⟩); replace K0 := Lib.hid (K0.out.on hb2); clear hg1 hh1; clear hb2)
      | (go_at_call 87; (with_reducible refine Calls.mono (hE ▸ first_2 _ K0.out K1.out trivial (fun _ => trivial)) ?_); rintro e y3 ⟨rfl, hb3⟩; replace l0 := keep hb3 l0; replace l1 := keep hb3 l1; replace l2 := keep hb3 l2; replace BV := Lib.hid (belowT (show Below w.heap.size w _ by have Bq := BV.out; (repeat (first | with_reducible exact Below.refl _ _ | with_reducible assumption | with_reducible refine Below.alloc ?_ (by first | (simp; done) | (simp; omega) | omega) _ | with_reducible refine Below.setCell ?_ (by first | (simp; done) | (simp; omega) | omega) _ | with_reducible refine Below.drew ?_ | with_reducible refine below_drewN ?_ _))) hb3); clear hb3)
      | (go_at_call 101; (with_reducible refine Calls.mono (HP.out _) ?_); rintro e y4 ⟨rfl, hb4⟩; replace l0 := keep hb4 l0; replace l1 := keep hb4 l1; replace l2 := keep hb4 l2; replace BV := Lib.hid (belowT (show Below w.heap.size w _ by have Bq := BV.out; (repeat (first | with_reducible exact Below.refl _ _ | with_reducible assumption | with_reducible refine Below.alloc ?_ (by first | (simp; done) | (simp; omega) | omega) _ | with_reducible refine Below.setCell ?_ (by first | (simp; done) | (simp; omega) | omega) _ | with_reducible refine Below.drew ?_ | with_reducible refine below_drewN ?_ _))) hb4); clear hb4))
    go_ret2
    exact ⟨rfl, BV.out⟩
  · rw [if_neg h0]
    have hq : (E != 0) = true := by simpa using h0
    clear h0 hm
    go_enter Try.func38, Try.ntmps38
    go_wp2_with (first
      | (go_at_call 99; (with_reducible refine Calls.mono (HPC.out _) ?_); rintro e y1 ⟨v0, rfl, hb1, g0, f0, rfl, hg0, hh0⟩; have BV := Lib.hid (belowT (show Below w.heap.size w _ by (repeat (first | with_reducible exact Below.refl _ _ | with_reducible assumption | with_reducible refine Below.alloc ?_ (by first | (simp; done) | (simp; omega) | omega) _ | with_reducible refine Below.setCell ?_ (by first | (simp; done) | (simp; omega) | omega) _ | with_reducible refine Below.drew ?_ | with_reducible refine below_drewN ?_ _))) hb1); have l0 := keep hb1 (b := w.heap.size) (o := 0) (v := .int .i64 ph) (by simp [go_sem]); have l1 := keep hb1 (b := w.heap.size) (o := 1) (v := .int .i64 inc) (by simp [go_sem]); have l2 := keep hb1 (b := w.heap.size) (o := 2) (v := .int .i64 ch) (by simp [go_sem]); have K0 := Lib.hid (show Chk True _ (.func (.func g0) #[] f0) y1 from ⟨g0, f0, rfl, hg0, hh0⟩); clear hg0 hh0; clear hb1)
      | (go_at_call 100; (with_reducible refine Calls.mono (HRG.out _) ?_); rintro e y2 ⟨v1, rfl, hb2, g1, f1, rfl, hg1, hh1⟩; replace l0 := keep hb2 l0; replace l1 := keep hb2 l1; replace l2 := keep hb2 l2; replace BV := Lib.hid (belowT (show Below w.heap.size w _ by have Bq := BV.out; (repeat (first | with_reducible exact Below.refl _ _ | with_reducible assumption | with_reducible refine Below.alloc ?_ (by first | (simp; done) | (simp; omega) | omega) _ | with_reducible refine Below.setCell ?_ (by first | (simp; done) | (simp; omega) | omega) _ | with_reducible refine Below.drew ?_ | with_reducible refine below_drewN ?_ _))) hb2); have K1 := Lib.hid (show Chk True _ (.func (.func g1) #[] f1) y2 from ⟨g1, f1, rfl, hg1, hh1⟩); replace K0 := Lib.hid (K0.out.on hb2); clear hg1 hh1; clear hb2)
      | (go_at_call 87; (with_reducible refine Calls.mono (hE ▸ first_2 _ K0.out K1.out trivial (fun _ => trivial)) ?_); rintro e y3 ⟨rfl, hb3⟩; replace l0 := keep hb3 l0; replace l1 := keep hb3 l1; replace l2 := keep hb3 l2; replace BV := Lib.hid (belowT (show Below w.heap.size w _ by have Bq := BV.out; (repeat (first | with_reducible exact Below.refl _ _ | with_reducible assumption | with_reducible refine Below.alloc ?_ (by first | (simp; done) | (simp; omega) | omega) _ | with_reducible refine Below.setCell ?_ (by first | (simp; done) | (simp; omega) | omega) _ | with_reducible refine Below.drew ?_ | with_reducible refine below_drewN ?_ _))) hb3); clear hb3))
    go_ret2
    exact ⟨rfl, BV.out⟩

end Go.Proofs.Ytpkacfgmojblbaa
namespace Go.Proofs.Ytpkacfgmojblbaa
open Go.RowKit
attribute [local go_sem] old1 fro1 old2 fro2 old3 fro3 old4 fro4 old5 fro5 old6 fro6 old7 fro7 old8 fro8 old9 fro9 old10 fro10 old11 fro11 old12 fro12
def my0 : List Bool := [false, false, false, false, false, true, true, true, true, true, true, true, true, true, true, true, true, true, true]
/-- three numbers are stored -/
theorem op_st3 {op : Oper} {a : Act} {w : World} {K : Act → World → Prop} {Q : Exit → Act → World → Prop} {x y : Operand} (ho : op.op = .store 59 x y) {q : Nat} {u v z u0 v0 z0 : Int} (hx : a.eval x = .pointer (some ⟨q, 0, none⟩)) (hy : a.eval y = .agg #[.int .i64 u, .int .i64 v, .int .i64 z]) (c0 : w.cell? ⟨q, 0, none⟩ = some (.int .i64 u0)) (c1 : w.cell? ⟨q, 1, none⟩ = some (.int .i64 v0)) (c2 : w.cell? ⟨q, 2, none⟩ = some (.int .i64 z0)) (f0 : w.frozen? ⟨q, 0, none⟩ = false) (f1 : w.frozen? ⟨q, 1, none⟩ = false) (f2 : w.frozen? ⟨q, 2, none⟩ = false)
    (h : K (a.put op.dst undef) (((w.setCell ⟨q, 0, none⟩ (.int .i64 u)).setCell ⟨q, 1, none⟩ (.int .i64 v)).setCell ⟨q, 2, none⟩ (.int .i64 z))) : op.wp Try.prog a w K Q := by
  unfold Oper.wp execOp
  simp only [ho, hx, hy]
  simp [go_sem, c0, c1, c2, f0, f1, f2]
  exact h
/-- how much a program's increment grows -/
def adv (inc ch n : Int) : Int := (inc + n * ch) % 4096
theorem adv_facts {inc ch n : Int} (_ : -4096 ≤ inc ∧ inc ≤ 4096) (hc : -4096 ≤ ch ∧ ch ≤ 4096) (n0 : 0 ≤ n) (n1 : n ≤ 1000000) : -4096000000 ≤ n * ch ∧ n * ch ≤ 4096000000 := by
  have a := mbd (a := n) (b := ch) (A := 1000000) (B := 4096) (by omega) (by omega) (by omega) (by omega)
  omega
set_option maxRecDepth 100000 in
set_option maxHeartbeats 2000000 in
theorem advancedR_any (ph inc ch n : Int) (hp : (0 ≤ ph ∧ ph ≤ 4095) ∧ (-4096 ≤ inc ∧ inc ≤ 4096) ∧ -4096 ≤ ch ∧ ch ≤ 4096) (n0 : 0 ≤ n) (n1 : n ≤ 1000000) (w : World) :
    Calls Try.prog 46 #[.agg #[.int .i64 ph, .int .i64 inc, .int .i64 ch], .int .i64 n] w fun e w' => e = .returned (.agg #[.int .i64 (phs ph inc ch n), .int .i64 (adv inc ch n), .int .i64 ch]) ∧ Below w.heap.size w w' := by
  have HP := Lib.hid (fun W => phaseAtR_any ph inc ch n hp n0 n1 W)
  obtain ⟨k0, k1⟩ := adv_facts hp.2.1 hp.2.2 n0 n1
  have HM := Lib.hid (fun W => bmod_any (inc + n * ch) 4096 (by omega) (by omega) W)
  have m1 : IntKind.i64.wrap (n * ch) = n * ch := IntWalk.i64_in _ (by omega)
  have m2 : IntKind.i64.wrap (inc + n * ch) = inc + n * ch := IntWalk.i64_in _ (by omega)
  have hy : adv inc ch n = (inc + n * ch) % 4096 := rfl
  rw [← hy] at HM
  clear hp k0 k1 hy
  generalize phs ph inc ch n = x at *
  generalize adv inc ch n = y at *
  go_enter Try.func46, Try.ntmps46
  go_upto_region 1 with fail
  have hbw : Below w.heap.size w ((w.alloc (.cells #[.int .i64 ph, .int .i64 inc, .int .i64 ch] 59)).alloc (.cells #[.int .i64 0, .int .i64 0, .int .i64 0] 59)) := by (repeat (first | with_reducible exact Below.refl _ _ | with_reducible assumption | with_reducible refine Below.alloc ?_ (by first | (simp; done) | (simp; omega) | omega) _ | with_reducible refine Below.setCell ?_ (by first | (simp; done) | (simp; omega) | omega) _ | with_reducible refine Below.drew ?_ | with_reducible refine below_drewN ?_ _))
  have p0 : ((w.alloc (.cells #[.int .i64 ph, .int .i64 inc, .int .i64 ch] 59)).alloc (.cells #[.int .i64 0, .int .i64 0, .int .i64 0] 59)).cell? ⟨w.heap.size, 0, none⟩ = some (.int .i64 ph) := by simp [go_sem]
  have p1 : ((w.alloc (.cells #[.int .i64 ph, .int .i64 inc, .int .i64 ch] 59)).alloc (.cells #[.int .i64 0, .int .i64 0, .int .i64 0] 59)).cell? ⟨w.heap.size, 1, none⟩ = some (.int .i64 inc) := by simp [go_sem]
  have p2 : ((w.alloc (.cells #[.int .i64 ph, .int .i64 inc, .int .i64 ch] 59)).alloc (.cells #[.int .i64 0, .int .i64 0, .int .i64 0] 59)).cell? ⟨w.heap.size, 2, none⟩ = some (.int .i64 ch) := by simp [go_sem]
  have r0 : ((w.alloc (.cells #[.int .i64 ph, .int .i64 inc, .int .i64 ch] 59)).alloc (.cells #[.int .i64 0, .int .i64 0, .int .i64 0] 59)).cell? ⟨w.heap.size + 1, 0, none⟩ = some (.int .i64 0) := by simp [go_sem]
  have r1 : ((w.alloc (.cells #[.int .i64 ph, .int .i64 inc, .int .i64 ch] 59)).alloc (.cells #[.int .i64 0, .int .i64 0, .int .i64 0] 59)).cell? ⟨w.heap.size + 1, 1, none⟩ = some (.int .i64 0) := by simp [go_sem]
  have r2 : ((w.alloc (.cells #[.int .i64 ph, .int .i64 inc, .int .i64 ch] 59)).alloc (.cells #[.int .i64 0, .int .i64 0, .int .i64 0] 59)).cell? ⟨w.heap.size + 1, 2, none⟩ = some (.int .i64 0) := by simp [go_sem]
  have z0 : ((w.alloc (.cells #[.int .i64 ph, .int .i64 inc, .int .i64 ch] 59)).alloc (.cells #[.int .i64 0, .int .i64 0, .int .i64 0] 59)).frozen? ⟨w.heap.size + 1, 0, none⟩ = false := by simp [go_sem]
  have z1 : ((w.alloc (.cells #[.int .i64 ph, .int .i64 inc, .int .i64 ch] 59)).alloc (.cells #[.int .i64 0, .int .i64 0, .int .i64 0] 59)).frozen? ⟨w.heap.size + 1, 1, none⟩ = false := by simp [go_sem]
  have z2 : ((w.alloc (.cells #[.int .i64 ph, .int .i64 inc, .int .i64 ch] 59)).alloc (.cells #[.int .i64 0, .int .i64 0, .int .i64 0] 59)).frozen? ⟨w.heap.size + 1, 2, none⟩ = false := by simp [go_sem]
  generalize ((w.alloc (.cells #[.int .i64 ph, .int .i64 inc, .int .i64 ch] 59)).alloc (.cells #[.int .i64 0, .int .i64 0, .int .i64 0] 59)) = w1 at *
  refine wp_region_last [mpEq (.agg #[.int .i64 ph, .int .i64 inc, .int .i64 ch]), mpEq (.int .i64 n), mpEq (.int .i64 x), mpEq (.pointer (some ⟨w.heap.size, 1, none⟩)), mpEq (.int .i64 inc), mpEq (.int .i64 n), mpEq (.pointer (some ⟨w.heap.size, 2, none⟩)), mpEq (.int .i64 ch), mpEq (.int .i64 (n * ch)), mpEq (.int .i64 (inc + n * ch)), mpEq (.int .i64 y), mpEq (.pointer (some ⟨w.heap.size, 2, none⟩)), mpEq (.int .i64 ch), mpEq (.agg #[.int .i64 x, .int .i64 y, .int .i64 ch])] 14 my0 (by kernel_rfl) (by kernel_rfl) (by kernel_rfl) rfl (by kernel_rfl) (
        allOps_cons (fun _ a' w' hb hs hd => rg_op fun K hK => by
      have e0 := (hs.get 2 (by kernel_rfl)).trans (show _ = .pointer (some ⟨w.heap.size, 0, none⟩) from rfl)
      have ec : ∀ v, a'.eval (.const v) = v := fun _ => rfl
      have c0 := keep hb p0
      have c1 := keep hb p1
      have c2 := keep hb p2
      clear hs hd
      unfold Oper.wp
      generalize a'.eval = ρ at e0 ec ⊢
      simp [go_sem, e0, c0, c1, c2]
      exact hK _ _ (Below.refl _ _) rfl) <|
        allOps_cons (fun _ a' w' hb hs hd => rg_op fun K hK => by
      have e0 := (hs.get 1 (by kernel_rfl)).trans (show _ = .int .i64 n from rfl)
      have ec : ∀ v, a'.eval (.const v) = v := fun _ => rfl
      clear hs hd
      unfold Oper.wp
      generalize a'.eval = ρ at e0 ec ⊢
      simp [go_sem, e0]
      exact hK _ _ (Below.refl _ _) rfl) <|
        allOps_cons (fun _ a' w' hb hs hd => by
      exact rg_fn (φ := (mpEq (.int .i64 x)).p) (vs := #[.agg #[.int .i64 ph, .int .i64 inc, .int .i64 ch], .int .i64 n]) rfl (enters_of Try.func45 (by kernel_rfl) rfl) (by simp [(show a'.eval (.tmp 5) = .agg #[.int .i64 ph, .int .i64 inc, .int .i64 ch] from hd.get 0 5 (by kernel_rfl) (by kernel_rfl)), (show a'.eval (.tmp 6) = .int .i64 n from hd.get 1 6 (by kernel_rfl) (by kernel_rfl))]) ((HP.out w').mono (by rintro e w1 ⟨rfl, h1⟩; exact ⟨_, rfl, h1, rfl⟩))) <|
        allOps_cons (fun _ a' w' hb hs hd => rg_op fun K hK => by
      have e0 := (hs.get 2 (by kernel_rfl)).trans (show _ = .pointer (some ⟨w.heap.size, 0, none⟩) from rfl)
      have ec : ∀ v, a'.eval (.const v) = v := fun _ => rfl
      clear hs hd
      unfold Oper.wp
      generalize a'.eval = ρ at e0 ec ⊢
      simp [go_sem, e0]
      exact hK _ _ (Below.refl _ _) rfl) <|
        allOps_cons (fun _ a' w' hb hs hd => rg_op fun K hK => by
      have e0 := (show a'.eval (.tmp 8) = .pointer (some ⟨w.heap.size, 1, none⟩) from hd.get 3 8 (by kernel_rfl) (by kernel_rfl))
      have ec : ∀ v, a'.eval (.const v) = v := fun _ => rfl
      have c0 := keep hb p1
      clear hs hd
      unfold Oper.wp
      generalize a'.eval = ρ at e0 ec ⊢
      simp [go_sem, e0, c0]
      exact hK _ _ (Below.refl _ _) rfl) <|
        allOps_cons (fun _ a' w' hb hs hd => rg_op fun K hK => by
      have e0 := (hs.get 1 (by kernel_rfl)).trans (show _ = .int .i64 n from rfl)
      have ec : ∀ v, a'.eval (.const v) = v := fun _ => rfl
      clear hs hd
      unfold Oper.wp
      generalize a'.eval = ρ at e0 ec ⊢
      simp [go_sem, e0]
      exact hK _ _ (Below.refl _ _) rfl) <|
        allOps_cons (fun _ a' w' hb hs hd => rg_op fun K hK => by
      have e0 := (hs.get 2 (by kernel_rfl)).trans (show _ = .pointer (some ⟨w.heap.size, 0, none⟩) from rfl)
      have ec : ∀ v, a'.eval (.const v) = v := fun _ => rfl
      clear hs hd
      unfold Oper.wp
      generalize a'.eval = ρ at e0 ec ⊢
      simp [go_sem, e0]
      exact hK _ _ (Below.refl _ _) rfl) <|
        allOps_cons (fun _ a' w' hb hs hd => rg_op fun K hK => by
      have e0 := (show a'.eval (.tmp 11) = .pointer (some ⟨w.heap.size, 2, none⟩) from hd.get 6 11 (by kernel_rfl) (by kernel_rfl))
      have ec : ∀ v, a'.eval (.const v) = v := fun _ => rfl
      have c0 := keep hb p2
      clear hs hd
      unfold Oper.wp
      generalize a'.eval = ρ at e0 ec ⊢
      simp [go_sem, e0, c0]
      exact hK _ _ (Below.refl _ _) rfl) <|
        allOps_cons (fun _ a' w' hb hs hd => rg_op fun K hK => by
      have e0 := (show a'.eval (.tmp 10) = .int .i64 n from hd.get 5 10 (by kernel_rfl) (by kernel_rfl))
      have e1 := (show a'.eval (.tmp 12) = .int .i64 ch from hd.get 7 12 (by kernel_rfl) (by kernel_rfl))
      have ec : ∀ v, a'.eval (.const v) = v := fun _ => rfl
      clear hs hd
      unfold Oper.wp
      generalize a'.eval = ρ at e0 e1 ec ⊢
      simp [go_sem, e0, e1, m1]
      exact hK _ _ (Below.refl _ _) rfl) <|
        allOps_cons (fun _ a' w' hb hs hd => rg_op fun K hK => by
      have e0 := (show a'.eval (.tmp 9) = .int .i64 inc from hd.get 4 9 (by kernel_rfl) (by kernel_rfl))
      have e1 := (show a'.eval (.tmp 13) = .int .i64 (n * ch) from hd.get 8 13 (by kernel_rfl) (by kernel_rfl))
      have ec : ∀ v, a'.eval (.const v) = v := fun _ => rfl
      clear hs hd
      unfold Oper.wp
      generalize a'.eval = ρ at e0 e1 ec ⊢
      simp [go_sem, e0, e1, m2]
      exact hK _ _ (Below.refl _ _) rfl) <|
        allOps_cons (fun _ a' w' hb hs hd => by
      exact rg_fn (φ := (mpEq (.int .i64 y)).p) (vs := #[.int .i64 (inc + n * ch), .int .i64 4096]) rfl (enters_of Try.func37 (by kernel_rfl) rfl) (by simp [(show a'.eval (.tmp 14) = .int .i64 (inc + n * ch) from hd.get 9 14 (by kernel_rfl) (by kernel_rfl)), (show a'.eval (.const (.int .i64 4096)) = .int .i64 4096 from rfl)]) ((HM.out w').mono (by rintro e w1 ⟨rfl, rfl⟩; exact ⟨_, rfl, Below.refl _ _, rfl⟩))) <|
        allOps_cons (fun _ a' w' hb hs hd => rg_op fun K hK => by
      have e0 := (hs.get 2 (by kernel_rfl)).trans (show _ = .pointer (some ⟨w.heap.size, 0, none⟩) from rfl)
      have ec : ∀ v, a'.eval (.const v) = v := fun _ => rfl
      clear hs hd
      unfold Oper.wp
      generalize a'.eval = ρ at e0 ec ⊢
      simp [go_sem, e0]
      exact hK _ _ (Below.refl _ _) rfl) <|
        allOps_cons (fun _ a' w' hb hs hd => rg_op fun K hK => by
      have e0 := (show a'.eval (.tmp 16) = .pointer (some ⟨w.heap.size, 2, none⟩) from hd.get 11 16 (by kernel_rfl) (by kernel_rfl))
      have ec : ∀ v, a'.eval (.const v) = v := fun _ => rfl
      have c0 := keep hb p2
      clear hs hd
      unfold Oper.wp
      generalize a'.eval = ρ at e0 ec ⊢
      simp [go_sem, e0, c0]
      exact hK _ _ (Below.refl _ _) rfl) <|
        allOps_cons (fun _ a' w' hb hs hd => rg_op fun K hK => by
      have e0 := (show a'.eval (.tmp 7) = .int .i64 x from hd.get 2 7 (by kernel_rfl) (by kernel_rfl))
      have e1 := (show a'.eval (.tmp 15) = .int .i64 y from hd.get 10 15 (by kernel_rfl) (by kernel_rfl))
      have e2 := (show a'.eval (.tmp 17) = .int .i64 ch from hd.get 12 17 (by kernel_rfl) (by kernel_rfl))
      have ec : ∀ v, a'.eval (.const v) = v := fun _ => rfl
      clear hs hd
      unfold Oper.wp
      generalize a'.eval = ρ at e0 e1 e2 ec ⊢
      simp [go_sem, e0, e1, e2]
      exact hK _ _ (Below.refl _ _) rfl) <| allOps_cons (fun h => absurd rfl h) <| allOps_nil) (fun V w2 hb2 hall K hK => ?_)
  have h4 : V 4 = V 4 := rfl
  have h18 : V 18 = .agg #[.int .i64 x, .int .i64 y, .int .i64 ch] := hall.get 13 rfl (by decide)
  clear hall h4
  refine op_st3 (q := w.heap.size + 1) rfl rfl h18 (keep hb2 r0) (keep hb2 r1) (keep hb2 r2) ((hb2.frozen (p := ⟨w.heap.size + 1, 0, none⟩) (lt_of r0)).trans z0) ((hb2.frozen (p := ⟨w.heap.size + 1, 1, none⟩) (lt_of r1)).trans z1) ((hb2.frozen (p := ⟨w.heap.size + 1, 2, none⟩) (lt_of r2)).trans z2) ?_
  refine hK _ _ ?_
  simp only [my0, maskPut, Nat.reduceAdd]
  have c0 := keep hb2 r0
  have c1 := keep hb2 r1
  have c2 := keep hb2 r2
  have HB := Lib.hid (belowT hbw hb2)
  clear h18 hK hb2 hbw
  go_wp2_with fail
  refine bodyPost_ret (v := .agg #[.int .i64 x, .int .i64 y, .int .i64 ch]) (by simp [results, Try.results46, go_sem, *]) rfl ⟨rfl, by have Bq := HB.out; (repeat (first | with_reducible exact Below.refl _ _ | with_reducible assumption | with_reducible refine Below.alloc ?_ (by first | (simp; done) | (simp; omega) | omega) _ | with_reducible refine Below.setCell ?_ (by first | (simp; done) | (simp; omega) | omega) _ | with_reducible refine Below.drew ?_ | with_reducible refine below_drewN ?_ _))⟩

end Go.Proofs.Ytpkacfgmojblbaa
namespace Go.Proofs.Ytpkacfgmojblbaa
open Go.RowKit
theorem wpAny_two {P : Program} {ops : Array Oper} {Q : Exit → Act → World → Prop} (φ : Nat → Value → World → Prop) (s t f : Nat) (a : Act) (w : World) (hl : rsLow ops a.tmps.size s) (hs : s < ops.size) (ht : t < ops.size) (hst : t ≠ s)
    (hA : ∀ i, i < ops.size → i ∈ rgAnc ops f (rgDeps ops[s]) ∨ i = s ∨ i = t) (hT : s ∈ rgAnc ops f (rgDeps ops[t]))
    (hmono : ∀ i v w1 w2, φ i v w1 → Below w1.heap.size w1 w2 → φ i v w2)
    (hstep : ∀ (i : Nat) (o : Oper), ops[i]? = some o → i ≠ s → i ≠ t → ∀ a' w', Below w.heap.size w w' → RSame ops a a' → RDeps ops φ a' w' o → o.wp P a' w' (fun a'' w'' => ∃ v, a'' = a'.put o.dst v ∧ Below w'.heap.size w' w'' ∧ φ i v w'') Q)
    (hlast : ∀ a' w', Below w.heap.size w w' → RSame ops a a' → (∀ (i : Nat) (o : Oper) (d : Nat), ops[i]? = some o → i ≠ t → o.dst = some d → φ i (a'.tmps.getD d undef) w') → ops[s].wp P a' w' (fun a'' w'' => ops[t].wp P a'' w'' (Q .normal) Q) Q) :
    ∀ (fuel : Nat) (listed : Array Bool) (a' : Act) (w' : World), LInv ops φ s a w listed a' w' → rgMissing listed ops.size ≤ fuel → wpAny P .any ops Q fuel listed a' w' := by
  have notnil : ∀ (listed : Array Bool) (a' : Act) (w' : World), LInv ops φ s a w listed a' w' → Region.ready .any ops listed = [] → False := by
    intro listed a' w' h hr
    have all : ∀ n i, i < n → i < ops.size → listed.getD i false = true := by
      intro n
      induction n with
      | zero => intro i hi; omega
      | succ n ih =>
        intro i hi hs
        rcases Nat.lt_or_eq_of_le (Nat.le_of_lt_succ hi) with h1 | rfl
        · exact ih i h1 hs
        · have ho : ops[i]? = some ops[i] := Array.getElem?_eq_getElem hs
          cases hc : listed.getD i false with
          | true => rfl
          | false =>
            exfalso
            have hm : i ∈ Region.ready .any ops listed := by
              unfold Region.ready
              refine List.mem_filter.2 ⟨List.mem_range.2 hs, ?_⟩
              have h2 : listed.getD i true = false := by
                have hsz : i < listed.size := by rw [h.sz]; exact hs
                simp [Array.getD, hsz] at hc ⊢
                exact hc
              rw [h2, ho]
              simp only [Bool.not_false, Bool.true_and, Option.map_some, Option.getD_some]
              rw [Array.all_eq_true_iff_forall_mem]
              intro e he
              cases hbd : Region.binds .any e with
              | false => simp
              | true =>
                have := ih e.on ((hl i _ ho).2.1 e he hbd) (by have := (hl i _ ho).2.1 e he hbd; omega)
                simp [this]
            rw [hr] at hm
            cases hm
    have := all (s + 1) s (by omega) hs
    rw [h.open'] at this
    cases this
  intro fuel
  induction fuel with
  | zero =>
    intro listed a' w' h hm
    have hr : Region.ready .any ops listed = [] := by
      rcases hq : Region.ready .any ops listed with _ | ⟨i, l⟩
      · rfl
      · exfalso
        have hi : i ∈ Region.ready .any ops listed := by rw [hq]; simp
        unfold Region.ready at hi
        obtain ⟨h1, h2⟩ := List.mem_filter.1 hi
        have h3 : (!listed.getD i true) = true := by
          simp only [Bool.and_eq_true] at h2
          exact h2.1
        have : i ∈ (List.range ops.size).filter fun i => !listed.getD i true := List.mem_filter.2 ⟨h1, h3⟩
        have := List.length_pos_of_mem this
        unfold rgMissing at hm
        omega
    exact (notnil _ _ _ h hr).elim
  | succ fuel ih =>
    intro listed a' w' h hm
    refine ⟨fun hr => (notnil _ _ _ h hr).elim, fun i hi => ?_⟩
    unfold Region.ready at hi
    obtain ⟨h1, h2⟩ := List.mem_filter.1 hi
    simp only [Bool.and_eq_true] at h2
    obtain ⟨h3, h4⟩ := h2
    have hsi : i < ops.size := List.mem_range.1 h1
    have ho : ops[i]? = some ops[i] := Array.getElem?_eq_getElem hsi
    have hun := getD_of_ready hsi h.sz h3
    obtain ⟨hg, hlow, hds, hdn⟩ := hl i _ ho
    rw [ho] at h4
    simp only [Option.map_some, Option.getD_some] at h4
    rw [Array.all_eq_true_iff_forall_mem] at h4
    have hsz : i < listed.size := by rw [h.sz]; exact hsi
    have hmiss : rgMissing (listed.setIfInBounds i true) ops.size ≤ fuel := by
      have : rgMissing (listed.setIfInBounds i true) ops.size < rgMissing listed ops.size := by
        refine filter_len_lt (i := i) ?_ h3 ?_ h1
        · intro x hx
          simp only [Array.getD_eq_getD_getElem?, Array.getElem?_setIfInBounds] at hx ⊢
          by_cases hxi : i = x
          · subst hxi
            simp [hsz] at hx
          · rw [if_neg hxi] at hx
            exact hx
        · simp [Array.getD_eq_getD_getElem?, hsz]
      omega
    have hon : ∀ e ∈ ops[i].after, Region.binds .any e = true → listed.getD e.on false = true := by
      intro e he hb
      have := h4 e he
      rw [hb] at this
      simpa using this
    have hclosed : RClosed ops (listed.setIfInBounds i true) := by
      intro j o' ho' hj k hk
      rcases getD_set hj with rfl | hj
      · rw [ho] at ho'
        cases ho'
        obtain ⟨e, he, rfl⟩ := List.mem_map.1 hk
        obtain ⟨he1, he2⟩ := List.mem_filter.1 he
        exact getD_set_mono (hon e (by simpa using he1) he2)
      · exact getD_set_mono (h.closed j o' ho' hj k hk)
    have hdeps : RDeps ops φ a' w' ops[i] := fun e he hb o' d' ho' hd' => h.pre _ _ _ ho' hd' (hon e he hb)
    have hwant : Region.wanted ops[i] (yielded ops a'.tmps) = true := by simp [Region.wanted, hg]
    unfold wpOp
    rw [ho]
    simp only [hwant, if_true]
    by_cases his : i = s
    · subst his
      have hall : ∀ j, j < ops.size → j ≠ i → j ≠ t → listed.getD j false = true := fun j hj hji hjt =>
        rgAnc_listed h.closed f (rgDeps ops[i]) (fun k hk => by
          obtain ⟨e, he, rfl⟩ := List.mem_map.1 hk
          obtain ⟨he1, he2⟩ := List.mem_filter.1 he
          exact hon e (by simpa using he1) he2) j (((hA j hj).resolve_right (fun q => q.elim hji hjt)))
      have htu : listed.getD t false = false := by
        cases hc : listed.getD t false with
        | false => rfl
        | true =>
          have h5 : ∀ k ∈ rgDeps ops[t], listed.getD k false = true := fun k hk => h.closed t ops[t] (Array.getElem?_eq_getElem ht) hc k hk
          have := rgAnc_listed h.closed f (rgDeps ops[t]) h5 i hT
          rw [hun] at this
          cases this
      have htu2 : (listed.setIfInBounds i true).getD t false = false := by rw [getD_set_ne hst]; exact htu
      have htu3 : (listed.setIfInBounds i true).getD t true = false := by
        have hsz2 : t < (listed.setIfInBounds i true).size := by simp [h.sz]; exact ht
        simp [Array.getD] at htu2 ⊢
        exact ⟨by rw [h.sz]; exact ht, htu2 (by rw [h.sz]; exact ht)⟩
      have hall2 : ∀ j, j < ops.size → j ≠ t → (listed.setIfInBounds i true).getD j false = true := fun j hj hjt => by
        by_cases hji : j = i
        · subst hji
          simp [Array.getD_eq_getD_getElem?, hsz]
        · exact getD_set_mono (hall j hj hji hjt)
      have hto : ops[t]? = some ops[t] := Array.getElem?_eq_getElem ht
      have htr : t ∈ Region.ready .any ops (listed.setIfInBounds i true) := by
        unfold Region.ready
        refine List.mem_filter.2 ⟨List.mem_range.2 ht, ?_⟩
        rw [htu3, hto]
        simp only [Bool.not_false, Bool.true_and, Option.map_some, Option.getD_some]
        rw [Array.all_eq_true_iff_forall_mem]
        intro e he
        cases hbd : Region.binds .any e with
        | false => simp
        | true =>
          have hlo := (hl t _ hto).2.1 e he hbd
          have := hall2 e.on (by omega) (by omega)
          simp [this]
      have hpos : 0 < rgMissing (listed.setIfInBounds i true) ops.size := by
        have : t ∈ (List.range ops.size).filter fun i' => !(listed.setIfInBounds i true).getD i' true := List.mem_filter.2 ⟨List.mem_range.2 ht, by rw [htu3]; rfl⟩
        exact List.length_pos_of_mem this
      refine .inl (Oper.wp_mono ?_ (hlast a' w' h.below ⟨h.tsize, h.defs, h.rest⟩ fun j o' d' ho' hjt hd' => h.pre j o' d' ho' hd' (hall j ?_ ?_ hjt)))
      · intro a'' w'' hq
        cases fuel with
        | zero => omega
        | succ n =>
          refine ⟨fun hr => (by rw [hr] at htr; cases htr), fun j hj => ?_⟩
          unfold Region.ready at hj
          obtain ⟨j1, j2⟩ := List.mem_filter.1 hj
          simp only [Bool.and_eq_true] at j2
          have hjs := List.mem_range.1 j1
          have hju := getD_of_ready hjs (by simp [h.sz]) j2.1
          have hjt : j = t := by
            rcases Nat.lt_trichotomy j t with q | q | q
            · rw [hall2 j hjs (by omega)] at hju; cases hju
            · exact q
            · rw [hall2 j hjs (by omega)] at hju; cases hju
          subst hjt
          unfold wpOp
          rw [hto]
          have hwant2 : Region.wanted ops[j] (yielded ops a''.tmps) = true := by simp [Region.wanted, (hl j _ hto).1]
          simp only [hwant2, if_true]
          refine .inl (Oper.wp_mono ?_ hq)
          intro a3 w3 hq3
          have hrn : Region.ready .any ops ((listed.setIfInBounds i true).setIfInBounds j true) = [] := by
            refine rg_nil_listed (by simp [h.sz]) fun x hx => ?_
            by_cases hxj : x = j
            · subst hxj
              have hsz2 : x < listed.size := by rw [h.sz]; exact ht
              simp [Array.getD_eq_getD_getElem?, hsz2]
            · exact getD_set_mono (hall2 x hx hxj)
          cases n with
          | zero => exact ⟨hrn, hq3⟩
          | succ n => exact ⟨fun _ => hq3, fun x hx => by rw [hrn] at hx; cases hx⟩
      · rcases Nat.lt_or_ge j ops.size with q | q
        · exact q
        · rw [Array.getElem?_eq_none q] at ho'; cases ho'
      · intro e
        subst e
        rw [ho] at ho'
        cases ho'
        rw [hds rfl] at hd'
        cases hd'
    · have hit : i ≠ t := by
        intro e
        subst e
        have := rgAnc_listed h.closed f (rgDeps ops[i]) (fun k hk => by
          obtain ⟨e, he, rfl⟩ := List.mem_map.1 hk
          obtain ⟨he1, he2⟩ := List.mem_filter.1 he
          exact hon e (by simpa using he1) he2) s hT
        rw [h.open'] at this
        cases this
      obtain ⟨d, hd, hdl, hdi⟩ := hdn his
      refine .inl (Oper.wp_mono ?_ (hstep i _ ho his hit a' w' h.below ⟨h.tsize, h.defs, h.rest⟩ hdeps))
      rintro a'' w'' ⟨v, rfl, hb, hv⟩
      rw [hd]
      refine ih _ _ _ ⟨by simp [h.sz], belowT h.below hb, by rw [← h.tsize]; simp [Act.put], by rw [← h.defs]; rfl, ?_, hclosed, ?_, ?_⟩ hmiss
      · intro t ht
        rw [rg_put_get (by intro e; exact ht i _ ho (by rw [hd, e]))]
        exact h.rest t ht
      · rw [getD_set_ne (fun e => his e.symm)]
        exact h.open'
      · intro j o' d' ho' hd' hj
        by_cases hji : j = i
        · subst hji
          rw [ho] at ho'
          cases ho'
          rw [hd] at hd'
          cases hd'
          rw [rg_put_own (by rw [h.tsize]; exact hdl)]
          exact hv
        · rw [rg_put_getD (by intro e; exact hdi j o' ho' hji (by rw [hd', e]))]
          exact hmono _ _ _ _ (h.pre j o' d' ho' hd' ((getD_set hj).resolve_left hji)) hb
/-- The law. s: the number of the last operation but one, t: that of the last. -/
theorem wp_region_two {P : Program} {id : Nat} {ops : Array Oper} {Q : Exit → Act → World → Prop} {a : Act} {w : World} (Φ : List MP) (s t : Nat) (m : List Bool) (hmask : maskOf (rsDsts ops.toList) a.tmps.size = m) (hm : P.follows .mixedOrders = true) (hl : rsCheck a.tmps.size s 0 ops.toList = true)
    {o o2 : Oper} (hso : ops[s]? = some o) (hto : ops[t]? = some o2) (hts : Nat.beq t s = false) (hA : ((List.range ops.size).all fun i => (rgAnc ops ops.size (rgDeps o)).contains i || Nat.beq i s || Nat.beq i t) = true) (hT : (rgAnc ops ops.size (rgDeps o2)).contains s = true)
    (hstep : AllOps (fun i o => i ≠ s → i ≠ t → ∀ a' w', Below w.heap.size w w' → RSame ops a a' → RDeps ops (fun i => (mpAt Φ i).p) a' w' o → o.wp P a' w' (fun a'' w'' => ∃ v, a'' = a'.put o.dst v ∧ Below w'.heap.size w' w'' ∧ (mpAt Φ i).p v w'') Q) 0 ops.toList)
    (hlast : ∀ (V : Nat → Value) (w' : World), Below w.heap.size w w' → AllOps (fun i o => i ≠ s → i ≠ t → (mpAt Φ i).p (V (o.dst.getD 0)) w') 0 ops.toList → ∀ K : Act → World → Prop, (∀ a'' w'', o2.wp P a'' w'' (Q .normal) Q → K a'' w'') → o.wp P ⟨(maskPut V 0 m a.tmps.toList).toArray, a.defers⟩ w' K Q) :
    (Code.region id ops true).wp P Q a w := by
  refine wp_region_any hm ?_
  have low := rsLow_of hl
  have hs : s < ops.size := (Array.getElem?_eq_some_iff.1 hso).1
  have hos : ops[s] = o := (Array.getElem?_eq_some_iff.1 hso).2
  have ht : t < ops.size := (Array.getElem?_eq_some_iff.1 hto).1
  have hot : ops[t] = o2 := (Array.getElem?_eq_some_iff.1 hto).2
  refine wpAny_two (fun i => (mpAt Φ i).p) s t ops.size a w low hs ht (fun e => by rw [e] at hts; simp at hts) (fun i hi => ?_) (by rw [hot]; simpa using hT) (fun i v w1 w2 => (mpAt Φ i).on v w1 w2) (allOps_of hstep) ?_ ops.size (Array.replicate ops.size false) a _ ⟨by simp, (Below.refl _ _).drew, rfl, rfl, fun _ _ => rfl, ?_, ?_, ?_⟩ ?_
  · have := List.all_eq_true.1 hA i (List.mem_range.2 hi)
    rw [hos]
    rcases (Bool.or_eq_true _ _).mp this with h | h
    · rcases (Bool.or_eq_true _ _).mp h with h | h
      · exact .inl (by simpa using h)
      · exact .inr (.inl (Nat.eq_of_beq_eq_true h))
    · exact .inr (.inr (Nat.eq_of_beq_eq_true h))
  · intro a' w' hb hsm hf
    have := hlast (fun d => a'.tmps.getD d undef) w' hb (allOps_mk fun i o ho hi hit => by
      obtain ⟨d, hd, _⟩ := (low i o ho).2.2.2 hi
      rw [hd]
      exact hf i o d ho hit hd) _ (fun _ _ h => h)
    rw [hos, hot, act_of_st hsm, act_mask _ _ a m hmask]
    exact this
  · intro i o ho h
    exfalso
    simp only [Array.getD_eq_getD_getElem?, Array.getElem?_replicate] at h
    split at h <;> cases h
  · simp only [Array.getD_eq_getD_getElem?, Array.getElem?_replicate]
    split <;> rfl
  · intro i o d ho _ h
    exfalso
    simp only [Array.getD_eq_getD_getElem?, Array.getElem?_replicate] at h
    split at h <;> cases h
  · unfold rgMissing
    refine Nat.le_trans (List.length_filter_le _ _) ?_
    simp
end Go.Proofs.Ytpkacfgmojblbaa
