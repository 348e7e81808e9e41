/- The statement RangingMeasurementsSaid: the check of measurements is as specified, or the errors, and its arguments read afterwards as before. -/
import Derived.Test.YtaemlmpcclfmdaaB15
import Derived.Test.YtaemlmpcclfmdaaB16
import Derived.Test.YtaemlmpcclfmdaaB19
import Derived.Test.YtaemlmpcclfmdaaProg
import Derived.Test.YtaemlmpcclfmdaaB11
import Derived.Test.YtaemlmpcclfmdaaB09
import Derived.Below
import Derived.Lib.SmallJoins
namespace Go.Proofs.Ytaemlmpcclfmdaa
open Go.RowKit
/-- the examples of this chapter hold -/
theorem awake7 : PC Try.prog 9 [] (.v (.bool true)) :=
  evLe_ok (by kernel_rfl) (knT_ok (okKn_cons w7c (okKn_cons w7b (okKn_cons w7x okKn_nil)))) (fuel := 300) (k := 40) (by kernel_rfl)
end Go.Proofs.Ytaemlmpcclfmdaa
namespace Go.Proofs.Ytaemlmpcclfmdaa
open Go.RowKit
theorem rcopyZ_pc (n : Nat) (p : Nat → Nat → Int) (hn : n ≤ 1000000000) : PC Try.prog 21 [zsl 5 n p] (zsl 5 n p) := (rcopy_pc n p hn).weak rfl (fun i hi => AV.le.refl _) (by
  rw [Nat.zero_add]
  refine AV.le_sl fun i hi j hj => ?_
  unfold appG
  rw [blt_f (Nat.zero_le _)]
  cases hb : Nat.beq n 1 with
  | true =>
    have := Nat.eq_of_beq_eq_true hb
    obtain rfl : i = 0 := by omega
    exact AV.le.refl _
  | false => exact AV.le.refl _)
theorem err_bits : ∀ b0 b1 b2 b3 b4 c0 c1 c2 c3 c4 : Bool, feL [bif b0 then 0 else 15, bif b1 then 0 else 2, bif b2 then 0 else 2, feL [bif b3 then 0 else 2, bif b4 then 0 else 2], bif (bif c0 then true else c1) then 0 else 3, bif (bif c2 then true else c3) then 0 else 9, bif c4 then 0 else 9] =
    bif (!b0) then 15 else (bif (bif (bif (bif (!b1) then true else (!b2)) then true else (!b3)) then true else (!b4)) then 2 else (bif (bif !c0 then !c1 else false) then 3 else (bif (bif (bif !c2 then !c3 else false) then true else !c4) then 9 else 0))) := by decide +kernel
theorem cErr_eq (q : Nat → Int) : cErrE q = mErrE q := by
  have r1 : (q 0 == 0) = !(q 0 != 0) := by simp [bne]
  have r2 : (q 1 != 0) = !(q 1 == 0) := rfl
  have r3 : (q 0 == 1) = !(q 0 != 1) := by simp [bne]
  have r4 : decide (q 1 ≥ q 2) = !decide (q 1 < q 2) := by
    by_cases h : q 1 < q 2
    · rw [decide_eq_true h, decide_eq_false (by omega)]; rfl
    · rw [decide_eq_false h, decide_eq_true (by omega)]; rfl
  have r5 : decide (q 3 > q 4) = !decide (q 3 ≤ q 4) := by
    by_cases h : q 3 ≤ q 4
    · rw [decide_eq_true h, decide_eq_false (by omega)]; rfl
    · rw [decide_eq_false h, decide_eq_true (by omega)]; rfl
  unfold cErrE mErrE
  rw [r1, r2, r3, r4, r5]
  exact err_bits _ _ _ _ _ _ _ _ _ _
set_option maxRecDepth 100000 in
theorem lawM_pc (n : Nat) (p : Nat → Nat → Int) : PC Try.prog 5 [zsl 5 n p] (bv (true)) := by
  have hE : (fun k => cErrE (p k)) = fun k => mErrE (p k) := funext fun k => cErr_eq _
  refine PC.intro Try.func5 (by kernel_rfl) rfl (by kernel_rfl) fun S0 w0 => ?_
  refine AW.seq ?_
  refine AW.region (noH) (RPre.of (X := True) (by kernel_rfl) trivial) ?_
  refine thenN ?_
  refine AW.seq ?_
  refine AW.seq ?_
  refine AW.region (vec [bv (true)]) (RPre.of (X := (PC Try.prog 9 [] (bv (true)))) (by kernel_rfl) (awake7)) ?_
  refine thenN ?_
  refine AW.cond (!true) (by kernel_rfl) (fun h8 => ?_) (fun h8 => ?_)
  · refine AW.seq ?_
    refine AW.region (noH) (RPre.of (X := True) (by kernel_rfl) trivial) ?_
    refine thenN ?_
    refine AW.ret ?_
    refine thenR ?_
    refine retN (bv (false)) (by kernel_rfl) ?_
    cases h8
  · refine AW.skip ?_
    refine thenN ?_
    refine AW.seq ?_
    refine AW.seq ?_
    refine AW.region (noH) (RPre.of (X := True) (by kernel_rfl) trivial) ?_
    refine thenN ?_
    refine AW.cond (decide (((n : Nat) : Int) > 14)) (by kernel_rfl) (fun h11 => ?_) (fun h11 => ?_)
    · have ch11 : (((n : Nat) : Int) > 14) := of_decide_eq_true h11
      refine AW.seq ?_
      refine AW.region (noH) (RPre.of (X := True) (by kernel_rfl) trivial) ?_
      refine thenN ?_
      refine AW.ret ?_
      refine thenR ?_
      refine retN (bv (true)) (by kernel_rfl) ?_
      first | exact AV.le.refl _ | exact le_bv (by simp [hE])
    · have ch11 : ¬ (((n : Nat) : Int) > 14) := of_decide_eq_false h11
      refine AW.skip ?_
      refine thenN ?_
      refine AW.seq ?_
      refine AW.region (vec [.dead, zsl 5 n p, .tup 2 (vec [iv (bif (decide (((n : Nat) : Int) > 12)) then 0 else (fi (fun k => cErrE (p k)) n)), iv (bif (decide (((n : Nat) : Int) > 12)) then 8 else (fe (fun k => cErrE (p k)) n))])]) (RPre.of (X := (PC Try.prog 21 [zsl 5 n p] (zsl 5 n p)) ∧ (PC Try.prog 20 [zsl 5 n p] (.tup 2 (vec [iv (bif (decide (((n : Nat) : Int) > 12)) then 0 else (fi (fun k => cErrE (p k)) n)), iv (bif (decide (((n : Nat) : Int) > 12)) then 8 else (fe (fun k => cErrE (p k)) n))])))) (by kernel_rfl) ⟨rcopyZ_pc _ _ (by omega), cms_pc _ _ (by omega)⟩) ?_
      refine thenN ?_
      refine AW.seq ?_
      refine AW.region (vec [.dead, .tup 2 (vec [iv (bif decide (((n : Nat) : Int) > 12) then 0 else fi (fun k => mErrE (p k)) n), iv (bif decide (((n : Nat) : Int) > 12) then 8 else fe (fun k => mErrE (p k)) n)])]) (RPre.of (X := (PC Try.prog 22 [zsl 5 n p] (.tup 2 (vec [iv (bif decide (((n : Nat) : Int) > 12) then 0 else fi (fun k => mErrE (p k)) n), iv (bif decide (((n : Nat) : Int) > 12) then 8 else fe (fun k => mErrE (p k)) n)])))) (by kernel_rfl) (rcms_pc _ (by omega) _)) ?_
      refine thenN ?_
      refine AW.seq ?_
      refine AW.region (noH) (RPre.of (X := ((gc ((bif (decide (((n : Nat) : Int) > 12)) then 8 else (fe (fun k => cErrE (p k)) n)) == (bif decide (((n : Nat) : Int) > 12) then 8 else fe (fun k => mErrE (p k)) n)) true) = true → ((gc ((bif (decide (((n : Nat) : Int) > 12)) then 8 else (fe (fun k => cErrE (p k)) n)) == (bif decide (((n : Nat) : Int) > 12) then 8 else fe (fun k => mErrE (p k)) n)) true) = true) ∧ ((gc ((bif (decide (((n : Nat) : Int) > 12)) then 8 else (fe (fun k => cErrE (p k)) n)) == (bif decide (((n : Nat) : Int) > 12) then 8 else fe (fun k => mErrE (p k)) n)) true) = true)) ∧ (((bif (decide (((n : Nat) : Int) > 12)) then 8 else (fe (fun k => cErrE (p k)) n)) == (bif decide (((n : Nat) : Int) > 12) then 8 else fe (fun k => mErrE (p k)) n)) = true → (gc ((bif (decide (((n : Nat) : Int) > 12)) then 8 else (fe (fun k => cErrE (p k)) n)) == (bif decide (((n : Nat) : Int) > 12) then 8 else fe (fun k => mErrE (p k)) n)) true) = true)) (by kernel_rfl) ⟨fun hg => ⟨(by first | assumption | simp_all [gc]), (by first | assumption | simp_all [gc])⟩, (fun h => by first | (rw [h]; rfl) | (simp [gc, h]; done) | simp_all [gc])⟩) ?_
      refine thenN ?_
      refine AW.ret ?_
      refine retN (bv (bif ((bif (decide (((n : Nat) : Int) > 12)) then 8 else (fe (fun k => cErrE (p k)) n)) == (bif decide (((n : Nat) : Int) > 12) then 8 else fe (fun k => mErrE (p k)) n)) then ((bif (decide (((n : Nat) : Int) > 12)) then 0 else (fi (fun k => cErrE (p k)) n)) == (bif decide (((n : Nat) : Int) > 12) then 0 else fi (fun k => mErrE (p k)) n)) else false)) (by kernel_rfl) ?_
      first | exact AV.le.refl _ | exact le_bv (by simp [hE])
end Go.Proofs.Ytaemlmpcclfmdaa
namespace Go.Proofs.Ytaemlmpcclfmdaa
open Go.ChangeShapes Go.WideShapes Go.ChangeAt Go.RowKit
theorem rangingMeasurements_laid : laidOutB Try.prog = true := by kernel_rfl
set_option maxRecDepth 100000 in
theorem rangingMeasurements_lifted (os : Os) (started : os.Started) (H : Type) (enc : TypeId × Value → H) :
    ReturnsInHanded {} Try.checked os 5 .any (Rows.rangingMeasurementsSpec.pre6 enc Try.prog Try.f5 Rows.rangingMeasurementsRow.domain false) (Rows.rangingMeasurementsSpec.post enc Try.prog Try.f5 false true false false) := by
  refine returnsInHanded_of_change (C := Try.checked) (by kernel_rfl) started (by kernel_rfl) Try.func5
    (ChangeSpec.witness6 (enc := enc) (C := Try.checked) false ⟨#[], #[.slice none 0 0], []⟩ 8 (by kernel_rfl) (by kernel_rfl) (by kernel_rfl) (by kernel_rfl)) ?_
  intro W base args ds gs before hval0 hW hcnd _
  have hval : ∀ (j : Nat) t v, Try.f5.params[j]? = some t → args[j]? = some v → Value.okWide Try.prog W .any base t v := hval0
  have hW' := hW
  obtain ⟨p, q, hA0, hV, rfl, hfz, hnd⟩ := hW
  have hA : DataW.TrodAll enc Try.prog W 0 (fun _ => true) true Try.f5.params.toList args.toList ds p := hA0
  rw [Try.params5] at hA hval
  obtain ⟨v0, vs0, dd0, ds0, p0, q0, hargs, rfl, rfl, h0, r0⟩ := trodAll_cons hA
  obtain ⟨rfl, rfl, rfl⟩ := trodAll_nil r0
  obtain rfl : args = #[v0] := by cases args; simp_all
  obtain ⟨rfl, rfl⟩ := trodVars_none hV
  have k0 := h0
  have lt0 : ∀ x ∈ p0, x.block < W.heap.size := by obtain ⟨m, hm⟩ := k0; exact DataW.trod_lt m _ _ _ hm
  obtain ⟨d0, o0, e0⟩ := open_one (hval 0 46 v0 rfl rfl) h0 12 (.sl 5 (fun _ => .int .i64)) (by kernel_rfl) (by kernel_rfl)
  clear hA0 hval0
  refine (PC.law (lawM_pc d0.1 d0.2) W [v0] ⟨e0, trivial⟩).mono fun e W' ⟨he, bel⟩ => ?_
  subst he
  exact ⟨_, rfl, _, _, _, [], _, [], hW', trodAll_mk1 (shut_bool Try.underlying4 _), (trodAll_cons_mk (Below.trod rangingMeasurements_laid (by kernel_rfl) (of_decide_eq_true (by kernel_rfl)) k0 bel lt0) trodAll_mk0), rfl, bel.frame _, fun h => by cases h⟩
theorem rangingMeasurements_over : Rows.rangingMeasurementsRow.holds Try.pinned (OpenSpec.ofChange Rows.rangingMeasurementsSpec) :=
  OpenClaim.holds_of_wide 5 Try.f5 rfl rfl rfl rfl rfl rfl rfl ⟨by kernel_rfl, by kernel_rfl, by kernel_rfl, by kernel_rfl, by kernel_rfl⟩ rfl rfl rfl rfl rfl (by kernel_rfl) Try.func5 (by kernel_rfl)
    (of_decide_eq_true (by kernel_rfl)) (by unfold Func.isWrapper; first | (rw [if_pos (by decide +kernel)]; kernel_rfl) | (rw [if_neg (by decide +kernel)]; exact ⟨rfl, rfl⟩))
    (fun os started H enc _ => rangingMeasurements_lifted os started H enc)
/-- THE STATEMENT. -/
theorem rangingMeasurements_holds : Rows.RangingMeasurementsSaid := rangingMeasurements_over
end Go.Proofs.Ytaemlmpcclfmdaa
