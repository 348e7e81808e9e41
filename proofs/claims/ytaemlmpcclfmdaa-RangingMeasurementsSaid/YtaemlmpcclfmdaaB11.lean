/- Helpers: checks of measurements. No condition but the hypotheses that each theorem names. -/
import Derived.Test.YtaemlmpcclfmdaaB10
import Derived.Test.YtaemlmpcclfmdaaB08
namespace Go.Proofs.Ytaemlmpcclfmdaa
open Go.RowKit
def cErrE (q : Nat → Int) : Int := feL [bif (decide (0 ≤ q 0 ∧ q 0 ≤ 1)) then 0 else 15, bif (decide (0 ≤ q 1 ∧ q 1 ≤ 1000)) then 0 else 2, bif (decide (0 ≤ q 2 ∧ q 2 ≤ 1000)) then 0 else 2, feL [bif (decide (-100000 ≤ q 3 ∧ q 3 ≤ 100000)) then 0 else 2, bif (decide (-100000 ≤ q 4 ∧ q 4 ≤ 100000)) then 0 else 2], bif (bif ((q 0) != 0) then true else ((q 1) == 0)) then 0 else 3, bif (bif ((q 0) != 1) then true else (decide ((q 1) < (q 2)))) then 0 else 9, bif (decide ((q 3) ≤ (q 4))) then 0 else 9]
theorem checkMeasurementE_pc (q : Nat → Int) : PC Try.prog 51 [zv 5 q] (iv (cErrE q)) := checkMeasurement_pc q
theorem le_five (q : Nat → Int) : AV.le (.agg 5 (vec [iv (q 0), iv (q 1), iv (q 2), iv (q 3), iv (q 4)])) (zv 5 q) := AV.le_agg fun i hi => by
  match i, hi with
  | 0, _ => exact AV.le.refl _
  | 1, _ => exact AV.le.refl _
  | 2, _ => exact AV.le.refl _
  | 3, _ => exact AV.le.refl _
  | 4, _ => exact AV.le.refl _
theorem checkMeasurementV_pc (q : Nat → Int) : PC Try.prog 51 [.agg 5 (vec [iv (q 0), iv (q 1), iv (q 2), iv (q 3), iv (q 4)])] (iv (cErrE q)) := (checkMeasurement_pc q).weak rfl (fun i hi => by
  match i, hi with
  | 0, _ => exact le_five q) (AV.le.refl _)
set_option maxRecDepth 100000 in
theorem cms1_pc (i : Int) (q : Nat → Int) : PC Try.prog 50 [iv (i), zv 5 q] (iv (cErrE q)) := by
  refine PC.intro Try.func50 (by kernel_rfl) rfl (by kernel_rfl) fun S0 w0 => ?_
  refine AW.seq ?_
  refine AW.region (noH) (RPre.of (X := True) (by kernel_rfl) trivial) ?_
  refine thenN ?_
  refine AW.seq ?_
  refine AW.region (vec [.dead, iv (cErrE q)]) (RPre.of (X := (PC Try.prog 51 [.agg 5 (vec [iv (q 0), iv (q 1), iv (q 2), iv (q 3), iv (q 4)])] (iv (cErrE q)))) (by kernel_rfl) (checkMeasurementV_pc _)) ?_
  refine thenN ?_
  refine AW.ret ?_
  refine retN (iv (cErrE q)) (by kernel_rfl) ?_
  exact AV.le.refl _
set_option maxRecDepth 100000 in
theorem cms_pc (n : Nat) (p : Nat → Nat → Int) (hn : n ≤ 1000000000) : PC Try.prog 20 [zsl 5 n p] (.tup 2 (vec [iv (bif (decide (((n : Nat) : Int) > 12)) then 0 else (fi (fun k => cErrE (p k)) n)), iv (bif (decide (((n : Nat) : Int) > 12)) then 8 else (fe (fun k => cErrE (p k)) n))])) := by
  refine PC.intro Try.func20 (by kernel_rfl) rfl (by kernel_rfl) fun S0 w0 => ?_
  refine AW.seq ?_
  refine AW.region (noH) (RPre.of (X := True) (by kernel_rfl) trivial) ?_
  refine thenN ?_
  refine AW.seq ?_
  refine AW.seq ?_
  refine AW.region (noH) (RPre.of (X := True) (by kernel_rfl) trivial) ?_
  refine thenN ?_
  refine AW.cond (decide (((n : Nat) : Int) > 12)) (by kernel_rfl) (fun h6 => ?_) (fun h6 => ?_)
  · have ch6 : (((n : Nat) : Int) > 12) := of_decide_eq_true h6
    refine AW.seq ?_
    refine AW.region (noH) (RPre.of (X := True) (by kernel_rfl) trivial) ?_
    refine thenN ?_
    refine AW.ret ?_
    refine thenR ?_
    refine retN (.tup 2 (vec [iv (0), iv (8)])) (by kernel_rfl) ?_
    exact le_eq (by simp only [h6, cond_true])
  · have ch6 : ¬ (((n : Nat) : Int) > 12) := of_decide_eq_false h6
    refine AW.skip ?_
    refine thenN ?_
    refine AW.seq ?_
    refine AW.region (vec [.dead, .tup 2 (vec [iv (fi (fun k => cErrE (p k)) n), iv (fe (fun k => cErrE (p k)) n)])]) (RPre.of (X := (PC Try.prog 49 [zsl 5 n p, .clo 50 0 (vec []) 0 (vec [])] (.tup 2 (vec [iv (fi (fun k => cErrE (p k)) n), iv (fe (fun k => cErrE (p k)) n)])))) (by kernel_rfl) (indexedM_pc _ (by omega) _ _ _ _ _ _ (fun k => cErrE (p k)) (fun k hk => cms1_pc _ _))) ?_
    refine thenN ?_
    refine AW.ret ?_
    refine retN (.tup 2 (vec [iv (fi (fun k => cErrE (p k)) n), iv (fe (fun k => cErrE (p k)) n)])) (by kernel_rfl) ?_
    exact le_eq (by simp only [h6, cond_false])
set_option maxRecDepth 100000 in
theorem mErr_pc (q : Nat → Int) : PC Try.prog 52 [zv 5 q] (iv (bif (!(decide (0 ≤ q 0 ∧ q 0 ≤ 1))) then 15 else (bif (bif (bif (bif (!(decide (0 ≤ q 1 ∧ q 1 ≤ 1000))) then true else (!(decide (0 ≤ q 2 ∧ q 2 ≤ 1000)))) then true else (!(decide (-100000 ≤ q 3 ∧ q 3 ≤ 100000)))) then true else (!(decide (-100000 ≤ q 4 ∧ q 4 ≤ 100000)))) then 2 else (bif (bif ((q 0) == 0) then ((q 1) != 0) else false) then 3 else (bif (bif (bif ((q 0) == 1) then (decide ((q 1) ≥ (q 2))) else false) then true else (decide ((q 3) > (q 4)))) then 9 else 0))))) := by
  refine PC.intro Try.func52 (by kernel_rfl) rfl (by kernel_rfl) fun S0 w0 => ?_
  refine AW.seq ?_
  refine AW.region (noH) (RPre.of (X := True) (by kernel_rfl) trivial) ?_
  refine thenN ?_
  refine AW.seq ?_
  refine AW.seq ?_
  refine AW.region (vec [.dead, .dead, bv (decide (0 ≤ q 0 ∧ q 0 ≤ 1))]) (RPre.of (X := (PC Try.prog 17 [iv (q 0), iv (0), iv (1)] (bv (decide (0 ≤ q 0 ∧ q 0 ≤ 1))))) (by kernel_rfl) (within_pc _ _ _)) ?_
  refine thenN ?_
  refine AW.cond (!(decide (0 ≤ q 0 ∧ q 0 ≤ 1))) (by kernel_rfl) (fun h7 => ?_) (fun h7 => ?_)
  · refine AW.seq ?_
    refine AW.region (noH) (RPre.of (X := True) (by kernel_rfl) trivial) ?_
    refine thenN ?_
    refine AW.ret ?_
    refine thenR ?_
    refine retN (iv (15)) (by kernel_rfl) ?_
    exact le_eq (by simp only [h7, cond_true])
  · refine AW.skip ?_
    refine thenN ?_
    refine AW.seq ?_
    refine AW.region (noH) (RPre.of (X := True) (by kernel_rfl) trivial) ?_
    refine thenN ?_
    refine AW.seq ?_
    refine AW.seq ?_
    refine AW.region (vec [.dead, .dead, bv (decide (0 ≤ q 1 ∧ q 1 ≤ 1000)), .dead, .dead, .dead, .dead, bv (decide (0 ≤ q 2 ∧ q 2 ≤ 1000)), .dead, .dead, .dead, .dead, .dead, .dead, .dead, .dead, .dead, bv (decide (-100000 ≤ q 3 ∧ q 3 ≤ 100000)), .dead, .dead, .dead, .dead, .dead, .dead, .dead, .dead, .dead, bv (decide (-100000 ≤ q 4 ∧ q 4 ≤ 100000))]) (RPre.of (X := (PC Try.prog 17 [iv (q 1), iv (0), iv (1000)] (bv (decide (0 ≤ q 1 ∧ q 1 ≤ 1000)))) ∧ ((gc (!(decide (0 ≤ q 1 ∧ q 1 ≤ 1000))) false) = true → ((gc (!(decide (0 ≤ q 1 ∧ q 1 ≤ 1000))) false) = true)) ∧ ((gc (!(decide (0 ≤ q 1 ∧ q 1 ≤ 1000))) false) = true → ((gc (!(decide (0 ≤ q 1 ∧ q 1 ≤ 1000))) false) = true) ∧ (PC Try.prog 17 [iv (q 2), iv (0), iv (1000)] (bv (decide (0 ≤ q 2 ∧ q 2 ≤ 1000))))) ∧ ((gc (!(decide (0 ≤ q 1 ∧ q 1 ≤ 1000))) false) = true → ((gc (!(decide (0 ≤ q 1 ∧ q 1 ≤ 1000))) false) = true)) ∧ ((!(decide (0 ≤ q 1 ∧ q 1 ≤ 1000))) = false → (gc (!(decide (0 ≤ q 1 ∧ q 1 ≤ 1000))) false) = true) ∧ ((gc (bif (!(decide (0 ≤ q 1 ∧ q 1 ≤ 1000))) then true else (!(decide (0 ≤ q 2 ∧ q 2 ≤ 1000)))) false) = true → ((gc (bif (!(decide (0 ≤ q 1 ∧ q 1 ≤ 1000))) then true else (!(decide (0 ≤ q 2 ∧ q 2 ≤ 1000)))) false) = true)) ∧ ((gc (bif (!(decide (0 ≤ q 1 ∧ q 1 ≤ 1000))) then true else (!(decide (0 ≤ q 2 ∧ q 2 ≤ 1000)))) false) = true → ((gc (bif (!(decide (0 ≤ q 1 ∧ q 1 ≤ 1000))) then true else (!(decide (0 ≤ q 2 ∧ q 2 ≤ 1000)))) false) = true)) ∧ ((gc (bif (!(decide (0 ≤ q 1 ∧ q 1 ≤ 1000))) then true else (!(decide (0 ≤ q 2 ∧ q 2 ≤ 1000)))) false) = true → ((gc (bif (!(decide (0 ≤ q 1 ∧ q 1 ≤ 1000))) then true else (!(decide (0 ≤ q 2 ∧ q 2 ≤ 1000)))) false) = true) ∧ ((-9223372036854775808 : Int) ≤ (0 - 100000) ∧ (0 - 100000) ≤ (9223372036854775807 : Int))) ∧ ((gc (bif (!(decide (0 ≤ q 1 ∧ q 1 ≤ 1000))) then true else (!(decide (0 ≤ q 2 ∧ q 2 ≤ 1000)))) false) = true → ((gc (bif (!(decide (0 ≤ q 1 ∧ q 1 ≤ 1000))) then true else (!(decide (0 ≤ q 2 ∧ q 2 ≤ 1000)))) false) = true) ∧ ((gc (bif (!(decide (0 ≤ q 1 ∧ q 1 ≤ 1000))) then true else (!(decide (0 ≤ q 2 ∧ q 2 ≤ 1000)))) false) = true) ∧ ((gc (bif (!(decide (0 ≤ q 1 ∧ q 1 ≤ 1000))) then true else (!(decide (0 ≤ q 2 ∧ q 2 ≤ 1000)))) false) = true) ∧ (PC Try.prog 17 [iv (q 3), iv (-100000), iv (100000)] (bv (decide (-100000 ≤ q 3 ∧ q 3 ≤ 100000))))) ∧ ((gc (bif (!(decide (0 ≤ q 1 ∧ q 1 ≤ 1000))) then true else (!(decide (0 ≤ q 2 ∧ q 2 ≤ 1000)))) false) = true → ((gc (bif (!(decide (0 ≤ q 1 ∧ q 1 ≤ 1000))) then true else (!(decide (0 ≤ q 2 ∧ q 2 ≤ 1000)))) false) = true)) ∧ ((bif (!(decide (0 ≤ q 1 ∧ q 1 ≤ 1000))) then true else (!(decide (0 ≤ q 2 ∧ q 2 ≤ 1000)))) = false → (gc (bif (!(decide (0 ≤ q 1 ∧ q 1 ≤ 1000))) then true else (!(decide (0 ≤ q 2 ∧ q 2 ≤ 1000)))) false) = true) ∧ ((gc (bif (bif (!(decide (0 ≤ q 1 ∧ q 1 ≤ 1000))) then true else (!(decide (0 ≤ q 2 ∧ q 2 ≤ 1000)))) then true else (!(decide (-100000 ≤ q 3 ∧ q 3 ≤ 100000)))) false) = true → ((gc (bif (bif (!(decide (0 ≤ q 1 ∧ q 1 ≤ 1000))) then true else (!(decide (0 ≤ q 2 ∧ q 2 ≤ 1000)))) then true else (!(decide (-100000 ≤ q 3 ∧ q 3 ≤ 100000)))) false) = true)) ∧ ((gc (bif (bif (!(decide (0 ≤ q 1 ∧ q 1 ≤ 1000))) then true else (!(decide (0 ≤ q 2 ∧ q 2 ≤ 1000)))) then true else (!(decide (-100000 ≤ q 3 ∧ q 3 ≤ 100000)))) false) = true → ((gc (bif (bif (!(decide (0 ≤ q 1 ∧ q 1 ≤ 1000))) then true else (!(decide (0 ≤ q 2 ∧ q 2 ≤ 1000)))) then true else (!(decide (-100000 ≤ q 3 ∧ q 3 ≤ 100000)))) false) = true)) ∧ ((gc (bif (bif (!(decide (0 ≤ q 1 ∧ q 1 ≤ 1000))) then true else (!(decide (0 ≤ q 2 ∧ q 2 ≤ 1000)))) then true else (!(decide (-100000 ≤ q 3 ∧ q 3 ≤ 100000)))) false) = true → ((gc (bif (bif (!(decide (0 ≤ q 1 ∧ q 1 ≤ 1000))) then true else (!(decide (0 ≤ q 2 ∧ q 2 ≤ 1000)))) then true else (!(decide (-100000 ≤ q 3 ∧ q 3 ≤ 100000)))) false) = true) ∧ ((-9223372036854775808 : Int) ≤ (0 - 100000) ∧ (0 - 100000) ≤ (9223372036854775807 : Int))) ∧ ((gc (bif (bif (!(decide (0 ≤ q 1 ∧ q 1 ≤ 1000))) then true else (!(decide (0 ≤ q 2 ∧ q 2 ≤ 1000)))) then true else (!(decide (-100000 ≤ q 3 ∧ q 3 ≤ 100000)))) false) = true → ((gc (bif (bif (!(decide (0 ≤ q 1 ∧ q 1 ≤ 1000))) then true else (!(decide (0 ≤ q 2 ∧ q 2 ≤ 1000)))) then true else (!(decide (-100000 ≤ q 3 ∧ q 3 ≤ 100000)))) false) = true) ∧ ((gc (bif (bif (!(decide (0 ≤ q 1 ∧ q 1 ≤ 1000))) then true else (!(decide (0 ≤ q 2 ∧ q 2 ≤ 1000)))) then true else (!(decide (-100000 ≤ q 3 ∧ q 3 ≤ 100000)))) false) = true) ∧ ((gc (bif (bif (!(decide (0 ≤ q 1 ∧ q 1 ≤ 1000))) then true else (!(decide (0 ≤ q 2 ∧ q 2 ≤ 1000)))) then true else (!(decide (-100000 ≤ q 3 ∧ q 3 ≤ 100000)))) false) = true) ∧ (PC Try.prog 17 [iv (q 4), iv (-100000), iv (100000)] (bv (decide (-100000 ≤ q 4 ∧ q 4 ≤ 100000))))) ∧ ((gc (bif (bif (!(decide (0 ≤ q 1 ∧ q 1 ≤ 1000))) then true else (!(decide (0 ≤ q 2 ∧ q 2 ≤ 1000)))) then true else (!(decide (-100000 ≤ q 3 ∧ q 3 ≤ 100000)))) false) = true → ((gc (bif (bif (!(decide (0 ≤ q 1 ∧ q 1 ≤ 1000))) then true else (!(decide (0 ≤ q 2 ∧ q 2 ≤ 1000)))) then true else (!(decide (-100000 ≤ q 3 ∧ q 3 ≤ 100000)))) false) = true)) ∧ ((bif (bif (!(decide (0 ≤ q 1 ∧ q 1 ≤ 1000))) then true else (!(decide (0 ≤ q 2 ∧ q 2 ≤ 1000)))) then true else (!(decide (-100000 ≤ q 3 ∧ q 3 ≤ 100000)))) = false → (gc (bif (bif (!(decide (0 ≤ q 1 ∧ q 1 ≤ 1000))) then true else (!(decide (0 ≤ q 2 ∧ q 2 ≤ 1000)))) then true else (!(decide (-100000 ≤ q 3 ∧ q 3 ≤ 100000)))) false) = true)) (by kernel_rfl) ⟨within_pc _ _ _, fun hg => (by first | assumption | simp_all [gc]), fun hg => ⟨(by first | assumption | simp_all [gc]), within_pc _ _ _⟩, fun hg => (by first | assumption | simp_all [gc]), (fun h => by first | (rw [h]; rfl) | (simp [gc, h]; done) | simp_all [gc]), fun hg => (by first | assumption | simp_all [gc]), fun hg => (by first | assumption | simp_all [gc]), fun hg => ⟨(by first | assumption | simp_all [gc]), (by omega)⟩, fun hg => ⟨(by first | assumption | simp_all [gc]), (by first | assumption | simp_all [gc]), (by first | assumption | simp_all [gc]), within_pc _ _ _⟩, fun hg => (by first | assumption | simp_all [gc]), (fun h => by first | (rw [h]; rfl) | (simp [gc, h]; done) | simp_all [gc]), fun hg => (by first | assumption | simp_all [gc]), fun hg => (by first | assumption | simp_all [gc]), fun hg => ⟨(by first | assumption | simp_all [gc]), (by omega)⟩, fun hg => ⟨(by first | assumption | simp_all [gc]), (by first | assumption | simp_all [gc]), (by first | assumption | simp_all [gc]), within_pc _ _ _⟩, fun hg => (by first | assumption | simp_all [gc]), (fun h => by first | (rw [h]; rfl) | (simp [gc, h]; done) | simp_all [gc])⟩) ?_
    refine thenN ?_
    refine AW.cond (bif (bif (bif (!(decide (0 ≤ q 1 ∧ q 1 ≤ 1000))) then true else (!(decide (0 ≤ q 2 ∧ q 2 ≤ 1000)))) then true else (!(decide (-100000 ≤ q 3 ∧ q 3 ≤ 100000)))) then true else (!(decide (-100000 ≤ q 4 ∧ q 4 ≤ 100000)))) (by kernel_rfl) (fun h37 => ?_) (fun h37 => ?_)
    · refine AW.seq ?_
      refine AW.region (noH) (RPre.of (X := True) (by kernel_rfl) trivial) ?_
      refine thenN ?_
      refine AW.ret ?_
      refine thenR ?_
      refine retN (iv (2)) (by kernel_rfl) ?_
      exact le_eq (by simp only [h7, h37, cond_true, cond_false])
    · refine AW.skip ?_
      refine thenN ?_
      refine AW.seq ?_
      refine AW.seq ?_
      refine AW.region (noH) (RPre.of (X := ((gc ((q 0) == 0) true) = true → ((gc ((q 0) == 0) true) = true)) ∧ ((gc ((q 0) == 0) true) = true → ((gc ((q 0) == 0) true) = true)) ∧ (((q 0) == 0) = true → (gc ((q 0) == 0) true) = true)) (by kernel_rfl) ⟨fun hg => (by first | assumption | simp_all [gc]), fun hg => (by first | assumption | simp_all [gc]), (fun h => by first | (rw [h]; rfl) | (simp [gc, h]; done) | simp_all [gc])⟩) ?_
      refine thenN ?_
      refine AW.cond (bif ((q 0) == 0) then ((q 1) != 0) else false) (by kernel_rfl) (fun h45 => ?_) (fun h45 => ?_)
      · refine AW.seq ?_
        refine AW.region (noH) (RPre.of (X := True) (by kernel_rfl) trivial) ?_
        refine thenN ?_
        refine AW.ret ?_
        refine thenR ?_
        refine retN (iv (3)) (by kernel_rfl) ?_
        exact le_eq (by simp only [h7, h37, h45, cond_true, cond_false])
      · refine AW.skip ?_
        refine thenN ?_
        refine AW.seq ?_
        refine AW.seq ?_
        refine AW.region (noH) (RPre.of (X := ((gc ((q 0) == 1) true) = true → ((gc ((q 0) == 1) true) = true)) ∧ ((gc ((q 0) == 1) true) = true → ((gc ((q 0) == 1) true) = true)) ∧ ((gc ((q 0) == 1) true) = true → ((gc ((q 0) == 1) true) = true) ∧ ((gc ((q 0) == 1) true) = true)) ∧ (((q 0) == 1) = true → (gc ((q 0) == 1) true) = true) ∧ ((gc (bif ((q 0) == 1) then (decide ((q 1) ≥ (q 2))) else false) false) = true → ((gc (bif ((q 0) == 1) then (decide ((q 1) ≥ (q 2))) else false) false) = true)) ∧ ((gc (bif ((q 0) == 1) then (decide ((q 1) ≥ (q 2))) else false) false) = true → ((gc (bif ((q 0) == 1) then (decide ((q 1) ≥ (q 2))) else false) false) = true)) ∧ ((gc (bif ((q 0) == 1) then (decide ((q 1) ≥ (q 2))) else false) false) = true → ((gc (bif ((q 0) == 1) then (decide ((q 1) ≥ (q 2))) else false) false) = true)) ∧ ((gc (bif ((q 0) == 1) then (decide ((q 1) ≥ (q 2))) else false) false) = true → ((gc (bif ((q 0) == 1) then (decide ((q 1) ≥ (q 2))) else false) false) = true)) ∧ ((gc (bif ((q 0) == 1) then (decide ((q 1) ≥ (q 2))) else false) false) = true → ((gc (bif ((q 0) == 1) then (decide ((q 1) ≥ (q 2))) else false) false) = true) ∧ ((gc (bif ((q 0) == 1) then (decide ((q 1) ≥ (q 2))) else false) false) = true)) ∧ ((bif ((q 0) == 1) then (decide ((q 1) ≥ (q 2))) else false) = false → (gc (bif ((q 0) == 1) then (decide ((q 1) ≥ (q 2))) else false) false) = true)) (by kernel_rfl) ⟨fun hg => (by first | assumption | simp_all [gc]), fun hg => (by first | assumption | simp_all [gc]), fun hg => ⟨(by first | assumption | simp_all [gc]), (by first | assumption | simp_all [gc])⟩, (fun h => by first | (rw [h]; rfl) | (simp [gc, h]; done) | simp_all [gc]), fun hg => (by first | assumption | simp_all [gc]), fun hg => (by first | assumption | simp_all [gc]), fun hg => (by first | assumption | simp_all [gc]), fun hg => (by first | assumption | simp_all [gc]), fun hg => ⟨(by first | assumption | simp_all [gc]), (by first | assumption | simp_all [gc])⟩, (fun h => by first | (rw [h]; rfl) | (simp [gc, h]; done) | simp_all [gc])⟩) ?_
        refine thenN ?_
        refine AW.cond (bif (bif ((q 0) == 1) then (decide ((q 1) ≥ (q 2))) else false) then true else (decide ((q 3) > (q 4)))) (by kernel_rfl) (fun h64 => ?_) (fun h64 => ?_)
        · refine AW.seq ?_
          refine AW.region (noH) (RPre.of (X := True) (by kernel_rfl) trivial) ?_
          refine thenN ?_
          refine AW.ret ?_
          refine thenR ?_
          refine retN (iv (9)) (by kernel_rfl) ?_
          exact le_eq (by simp only [h7, h37, h45, h64, cond_true, cond_false])
        · refine AW.skip ?_
          refine thenN ?_
          refine AW.seq ?_
          refine AW.region (noH) (RPre.of (X := True) (by kernel_rfl) trivial) ?_
          refine thenN ?_
          refine AW.ret ?_
          refine retN (iv (0)) (by kernel_rfl) ?_
          exact le_eq (by simp only [h7, h37, h45, h64, cond_false])
def mErrE (q : Nat → Int) : Int := bif (!(decide (0 ≤ q 0 ∧ q 0 ≤ 1))) then 15 else (bif (bif (bif (bif (!(decide (0 ≤ q 1 ∧ q 1 ≤ 1000))) then true else (!(decide (0 ≤ q 2 ∧ q 2 ≤ 1000)))) then true else (!(decide (-100000 ≤ q 3 ∧ q 3 ≤ 100000)))) then true else (!(decide (-100000 ≤ q 4 ∧ q 4 ≤ 100000)))) then 2 else (bif (bif ((q 0) == 0) then ((q 1) != 0) else false) then 3 else (bif (bif (bif ((q 0) == 1) then (decide ((q 1) ≥ (q 2))) else false) then true else (decide ((q 3) > (q 4)))) then 9 else 0)))
theorem mErrE_pc (q : Nat → Int) : PC Try.prog 52 [zv 5 q] (iv (mErrE q)) := mErr_pc q
end Go.Proofs.Ytaemlmpcclfmdaa
namespace Go.Proofs.Ytaemlmpcclfmdaa
open Go.RowKit
theorem mErrV_pc (q : Nat → Int) : PC Try.prog 52 [.agg 5 (vec [iv (q 0), iv (q 1), iv (q 2), iv (q 3), iv (q 4)])] (iv (mErrE q)) := (mErrE_pc q).weak rfl (fun i hi => by
  match i, hi with
  | 0, _ => exact le_five q) (AV.le.refl _)
set_option maxRecDepth 100000 in
theorem rcms_pc (n : Nat) (hn : n ≤ 1000000000) (p : Nat → Nat → Int) : PC Try.prog 22 [zsl 5 n p] (.tup 2 (vec [iv (bif decide (((n : Nat) : Int) > 12) then 0 else fi (fun k => mErrE (p k)) n), iv (bif decide (((n : Nat) : Int) > 12) then 8 else fe (fun k => mErrE (p k)) n)])) := by
  refine PC.intro Try.func22 (by kernel_rfl) rfl (by kernel_rfl) fun S0 w0 => ?_
  refine AW.seq ?_
  refine AW.region (noH) (RPre.of (X := True) (by kernel_rfl) trivial) ?_
  refine thenN ?_
  refine AW.seq ?_
  refine AW.seq ?_
  refine AW.region (noH) (RPre.of (X := True) (by kernel_rfl) trivial) ?_
  refine thenN ?_
  refine AW.cond (decide (((n : Nat) : Int) > 12)) (by kernel_rfl) (fun h8 => ?_) (fun h8 => ?_)
  · have ch8 : (((n : Nat) : Int) > 12) := of_decide_eq_true h8
    refine AW.seq ?_
    refine AW.region (noH) (RPre.of (X := True) (by kernel_rfl) trivial) ?_
    refine thenN ?_
    refine AW.ret ?_
    refine thenR ?_
    refine retN (.tup 2 (vec [iv (0), iv (8)])) (by kernel_rfl) ?_
    exact le_eq (by simp only [h8, cond_true])
  · have ch8 : ¬ (((n : Nat) : Int) > 12) := of_decide_eq_false h8
    refine AW.skip ?_
    refine thenN ?_
    refine AW.seq ?_
    refine AW.seq ?_
    refine AW.region (noH) (RPre.of (X := True) (by kernel_rfl) trivial) ?_
    refine thenN ?_
    refine AW.block ?_
    refine AW.re [(0, zsl 5 n p), (4, iv (((0 : Nat) : Int)))] [] [] (by kernel_rfl) (SLe.all (by kernel_rfl)) trivial ?_
    refine AW.loop (fun m_ σ_ => ∃ (k : Nat), (k ≤ n ∧ ∀ i, i < k → mErrE (p i) = 0) ∧ m_ = n - k ∧ σ_ = ⟨mkS [(0, zsl 5 n p), (4, iv (((k : Nat) : Int)))], mkB []⟩) _ ⟨0, ⟨Nat.zero_le _, fun i hi => absurd hi (Nat.not_lt_zero _)⟩, rfl, rfl⟩ ?_
    rintro _ _ ⟨k, H0, rfl, rfl⟩
    obtain ⟨hk, H⟩ := H0
    refine AW.seq ?_
    refine AW.seq ?_
    refine AW.region (noH) (RPre.of (X := True) (by kernel_rfl) trivial) ?_
    refine thenN ?_
    refine AW.cond (decide (((k : Nat) : Int) < ((n : Nat) : Int))) (by kernel_rfl) (fun h12 => ?_) (fun h12 => ?_)
    · have ch12 : (((k : Nat) : Int) < ((n : Nat) : Int)) := of_decide_eq_true h12
      refine AW.skip ?_
      refine thenN ?_
      refine AW.seq ?_
      refine AW.block ?_
      refine AW.seq ?_
      refine AW.region (vec [.dead, .dead, .dead, .dead, iv (mErrE ((p k)))]) (RPre.of (X := (0 ≤ ((k : Nat) : Int)) ∧ (((k : Nat) : Int) < (n : Nat)) ∧ (PC Try.prog 52 [.agg 5 (vec [iv ((p k) 0), iv ((p k) 1), iv ((p k) 2), iv ((p k) 3), iv ((p k) 4)])] (iv (mErrE ((p k)))))) (by kernel_rfl) ⟨(by omega), (by omega), mErrV_pc _⟩) ?_
      refine thenN ?_
      refine AW.seq ?_
      refine AW.region (noH) (RPre.of (X := True) (by kernel_rfl) trivial) ?_
      refine thenN ?_
      refine AW.cond ((mErrE ((p k))) != 0) (by kernel_rfl) (fun h21 => ?_) (fun h21 => ?_)
      · have ch21 : (mErrE ((p k))) ≠ 0 := by simpa using h21
        refine AW.seq ?_
        refine AW.region (noH) (RPre.of (X := True) (by kernel_rfl) trivial) ?_
        refine thenN ?_
        refine AW.ret ?_
        refine blockR ?_
        refine thenR ?_
        refine loopR ?_
        refine blockR ?_
        refine thenR ?_
        refine retN (.tup 2 (vec [iv (((k : Nat) : Int)), iv (mErrE ((p k)))])) (by kernel_rfl) ?_
        exact le_eq (by simp only [h8, cond_false]; rw [fe_hit (e := (fun k => mErrE (p k))) H (show k < n by omega) ch21, fi_hit (e := (fun k => mErrE (p k))) H (show k < n by omega) ch21])
      · have ch21 : (mErrE ((p k))) = 0 := by simpa using h21
        refine AW.skip ?_
        refine blockN ?_
        refine thenN ?_
        refine AW.region (noH) (RPre.of (X := ((-9223372036854775808 : Int) ≤ (((k : Nat) : Int) + 1) ∧ (((k : Nat) : Int) + 1) ≤ (9223372036854775807 : Int))) (by kernel_rfl) (by omega)) ?_
        have hx : ∀ i, i < k + 1 → mErrE (p i) = 0 := by
          intro i hi
          by_cases q : i = k
          · subst q; exact ch21
          · exact H i (by omega)
        exact loopN' ⟨n - (k + 1), _, (by omega), ⟨(k + 1), ⟨by omega, hx⟩, rfl, rfl⟩, wk_re [(0, zsl 5 n p), (4, iv ((((k + 1) : Nat) : Int)))] [] [] (by kernel_rfl) (SLe.all (by kernel_rfl)) trivial⟩
    · have ch12 : ¬ (((k : Nat) : Int) < ((n : Nat) : Int)) := of_decide_eq_false h12
      refine AW.exit ?_
      refine thenE ?_
      refine loopE ?_
      refine blockH ?_
      refine thenN ?_
      refine AW.seq ?_
      refine AW.region (noH) (RPre.of (X := True) (by kernel_rfl) trivial) ?_
      refine thenN ?_
      refine AW.ret ?_
      refine retN (.tup 2 (vec [iv (0), iv (0)])) (by kernel_rfl) ?_
      exact le_eq (by simp only [h8, cond_false]; rw [fe_none (e := (fun k => mErrE (p k))) (fun i hi => H i (by omega)), fi_none (e := (fun k => mErrE (p k))) (fun i hi => H i (by omega))])
set_option maxRecDepth 100000 in
theorem rcopy_pc (n : Nat) (p : Nat → Nat → Int) (hn : n ≤ 1000000000) : PC Try.prog 21 [zsl 5 n p] (.sl 5 ((0 + n)) (appG (0) (n) (fun k j => vec [] (k * 5 + j)) (fun i j => iv (p i j)))) := by
  refine PC.intro Try.func21 (by kernel_rfl) rfl (by kernel_rfl) fun S0 w0 => ?_
  refine AW.seq ?_
  refine AW.region (noH) (RPre.of (X := True) (by kernel_rfl) trivial) ?_
  refine thenN ?_
  refine AW.seq ?_
  refine AW.region (noH) (RPre.of (X := (0 + n ≤ 1000000000)) (by kernel_rfl) (by omega)) ?_
  refine thenN ?_
  refine AW.ret ?_
  refine retN (.sl 5 ((0 + n)) (appG (0) (n) (fun k j => vec [] (k * 5 + j)) (fun i j => iv (p i j)))) (by kernel_rfl) ?_
  exact AV.le.refl _
end Go.Proofs.Ytaemlmpcclfmdaa
namespace Go.Proofs.Ytaemlmpcclfmdaa
open Go.RowKit
theorem cell_loop {w : World} {x : Addr} {r : Loop} (h : w.heap[x.block]? = some (Obj.loop r)) : w.cell? x = none := by simp [World.cell?, h]
section
variable {P : Program} {S0 : Addr → Prop} {mm : Nat} {w0 : Bs mm} {N : Nat} {U : Nat → Prop} {σ : ASt} {a : Act} {w : World} {S : Addr → Prop} {κ : Nat → Option Hdr} {nx : Nat} {K : AK}
/-- a name is forgotten -/
theorem RelX.drop (h : RelX S0 w0 N U σ a w S κ) (k : Nat) : RelX S0 w0 N U ⟨σ.slot, upd σ.name k .none⟩ a w S κ := by
  refine h.step (BelX.refl _ _ _) (fun _ h => h) (fun _ h => .inl h) h.dfn (fun _ _ h => h) h.used (fun _ _ => rfl) (fun j j' b l1 l2 e1 e2 => ?_) (fun j => ?_) (DefK.refl _)
  · refine h.inj j j' b ?_ ?_ e1 e2
    · intro q
      by_cases c : j = k
      · subst c; rw [upd_own] at l1; exact l1 rfl
      · rw [upd_ne _ _ c] at l1; exact l1 q
    · intro q
      by_cases c : j' = k
      · subst c; rw [upd_own] at l2; exact l2 rfl
      · rw [upd_ne _ _ c] at l2; exact l2 q
  · by_cases c : j = k
    · subst c; rw [upd_own]; trivial
    · rw [upd_ne _ _ c]; exact h.names j
theorem putObj_other {w : World} {l k : Nat} {o : Obj} (h : k ≠ l) : (w.putObj l o).heap[k]? = w.heap[k]? := World.putObj_heap_other h
theorem putObj_cells {w : World} {l : Nat} {r r' : Loop} (h : w.heap[l]? = some (Obj.loop r)) (x : Addr) : (w.putObj l (.loop r')).cell? x = w.cell? x := by
  by_cases hx : x.block = l
  · subst hx
    rw [cell_loop h, cell_loop (r := r') (World.putObj_heap_same (Array.getElem?_eq_some_iff.1 h).1)]
  · exact World.cell?_of_block (putObj_other hx)
/-- a loop's record that nobody names is turned -/
theorem RelX.putLoop (h : RelX S0 w0 N U σ a w S κ) {l : Nat} {r r' : Loop} (hl : w.heap[l]? = some (Obj.loop r)) (hO : w0.O l) (hn : ∀ k, σ.name k ≠ .none → hblk (κ k) ≠ some l) : RelX S0 w0 N U σ a (w.putObj l (.loop r')) S κ := by
  have hsz : (w.putObj l (.loop r')).heap.size = w.heap.size := by simp
  have hc := putObj_cells (r' := r') hl
  refine h.step (nm := σ.name) ⟨rfl, rfl, rfl, by omega, fun i hi hX => putObj_other (fun q => by subst q; exact hO.elim (fun q => by omega) hX)⟩ (fun _ h => h) (fun _ h => .inl h) (fun x hx => by rw [hsz]; exact h.dfn x hx) (fun _ _ h => h) h.used (fun x _ => hc x) h.inj (fun k => ?_) (fun D ds hD => (putObj_other (fun q => by subst q; rw [hl] at hD; cases hD)).trans hD)
  by_cases hq : σ.name k = .none
  · rw [hq]; trivial
  · exact RdB.keep (h.names k) (fun _ h => h) (fun _ _ h => h) (fun x _ => hc x) (fun b hb => ⟨putObj_other (fun q => by subst q; exact hn k hq hb), fun _ h => h⟩)
theorem run_enterLoop_inner {fn : FuncId} {tmps : Array Value} {ps : Array Tmp} {asg bd : Code} {l0 : Nat} {r0 : Loop} (h : w.heap[l0]? = some (Obj.loop r0)) :
    (Instr.enterLoop fn tmps ps asg bd (some l0)).run P w = .ok (w.heap.size, []) (w.alloc (.loop { state := .ready, pending := none, fn, tmps, params := ps, assign := asg, body := bd, defers := r0.defers })) := by
  unfold Instr.enterLoop
  simp only [Sem.run_bind, run_getLoop h, run_newObj_alloc, Result.andThen, Sem.run_pure]
/-- other deferred calls -/
theorem RelX.defs (h : RelX S0 w0 N U σ a w S κ) {ds : List Deferred} (hd : ∃ Ds : List Nat, ds = marks Ds ∧ Ds.Nodup ∧ ∀ D, D ∈ Ds → w0.O D ∧ w.heap[D]? = some (Obj.deferred (some []))) : RelX S0 w0 N U σ { a with defers := ds } w S κ :=
  ⟨h.below, h.sub, h.new, h.keep, h.kap, h.dfn, h.used, h.inj, h.slots, h.names, hd, h.size⟩
theorem enterLoop_rel {ro : Option Nat} (ho : okRo w0 ro) (h : RelX S0 w0 N (fun k => k < nx * 16) σ a w S κ) (fn : FuncId) {ps : Array Tmp} {asg bd : Code} {s' : Nat → AV} (hs : ∀ t, t < N → AV.le (σ.slot t) (s' t)) :
    ∃ l mark w1, (Instr.enterLoop fn a.tmps ps asg bd ro).run P w = .ok (l, mark) w1 ∧ RelX S0 w0 N (fun k => k < nx * 16 ∨ nmR (nx * 16) k) ⟨σ.slot, upd σ.name (nx * 16) (.lp N s' ps asg bd true none)⟩ { a with defers := mark ++ a.defers } w1 S (upd κ (nx * 16) (some (.bx l))) := by
  have hk : κ (nx * 16) = none := by
    cases hκ : κ (nx * 16) with
    | none => rfl
    | some q => exact absurd (h.used (nx * 16) (by rw [hκ]; exact fun q => by cases q)) (Nat.lt_irrefl _)
  have fin : ∀ (a' : Act) (W : World) (dn : Nat), a'.tmps = a.tmps → RelX S0 w0 N (fun k => k < nx * 16) σ a' W S κ → RelX S0 w0 N (fun k => k < nx * 16 ∨ nmR (nx * 16) k) ⟨σ.slot, upd σ.name (nx * 16) (.lp N s' ps asg bd true none)⟩ a' (W.alloc (.loop { state := .ready, pending := none, fn, tmps := a.tmps, params := ps, assign := asg, body := bd, defers := dn })) S (upd κ (nx * 16) (some (.bx W.heap.size))) := by
    intro a' W dn ha hr
    have hm : ∀ x, S x → (W.alloc (.loop { state := .ready, pending := none, fn, tmps := a.tmps, params := ps, assign := asg, body := bd, defers := dn })).cell? x = W.cell? x := fun x hx => World.cell?_of_block (w := W) (a := x) (Below.heap_alloc _ _ _ (hr.dfn x hx))
    refine hr.fresh hk (fun b hb => by cases hb; rfl) ⟨W.heap.size, { state := .ready, pending := none, fn, tmps := a.tmps, params := ps, assign := asg, body := bd, defers := dn }, rfl, .inl hr.below.size, by show (W.heap.push _)[W.heap.size]? = _; simp, rfl, rfl, rfl, rfl, rfl, by show a.tmps.size = N; rw [← ha]; exact hr.size, fun t ht => ?_⟩
    have := hr.slots t
    rw [ha] at this
    exact Rd.mono (fun _ h => h) hm _ (upd_mono hk) _ (hs t ht _ _ _ _ this)
  cases ro with
  | none =>
    refine ⟨w.heap.size + 1, _, _, run_enterLoop_outer _ _ _ _ _, ?_⟩
    have hkeep : ∀ k, k < w.heap.size → (w.alloc (.deferred (some []))).heap[k]? = w.heap[k]? := fun k hk => Below.heap_alloc _ _ _ hk
    have hc : ∀ x, S x → (w.alloc (.deferred (some []))).cell? x = w.cell? x := fun x hx => World.cell?_of_block (w := w) (a := x) (hkeep _ (h.dfn x hx))
    have h1 := h.step (nm := σ.name) (U' := fun k => k < nx * 16) (κ' := κ) (.of ((Below.refl _ w).alloc h.below.size (.deferred (some [])))) (fun _ h => h) (fun _ h => .inl h) (fun x hx => by have := h.dfn x hx; simp; omega) (fun _ _ h => h) h.used hc h.inj (fun k => by
      by_cases hl : σ.name k = .none
      · rw [hl]; trivial
      · exact RdB.keep (h.names k) (fun _ h => h) (fun _ _ h => h) hc (fun b hb => ⟨hkeep _ (RdB.lt (h.names k) hl hb).1, fun _ h => h⟩)) (fun D ds hD => (hkeep D (Array.getElem?_eq_some_iff.1 hD).1).trans hD)
    obtain ⟨Ds, d1, d2, d3⟩ := h1.dfs
    have h2 := h1.defs (ds := { target := .collected w.heap.size, args := #[] } :: a.defers) ⟨w.heap.size :: Ds, by rw [d1]; rfl, List.nodup_cons.2 ⟨fun q => ?_, d2⟩, fun D hD => ?_⟩
    · have := fin { a with defers := { target := .collected w.heap.size, args := #[] } :: a.defers } (w.alloc (.deferred (some []))) w.heap.size rfl h2
      rw [World.size_alloc] at this
      exact this
    · obtain ⟨Ds', d1', _, d3'⟩ := h.dfs
      have : Ds = Ds' := by
        rw [d1] at d1'
        have hinj : ∀ (x y : List Nat), marks x = marks y → x = y := by
          intro x
          induction x with
          | nil => intro y e; cases y with | nil => rfl | cons b y => cases e
          | cons b x ih =>
            intro y e
            cases y with
            | nil => cases e
            | cons b' y =>
              simp only [marks, List.map_cons, List.cons.injEq] at e
              have h1 := congrArg Deferred.target e.1
              simp only [Target.collected.injEq] at h1
              rw [h1, ih y e.2]
        exact hinj _ _ d1'
      subst this
      exact absurd (Array.getElem?_eq_some_iff.1 (d3' _ q).2).1 (Nat.lt_irrefl _)
    · rcases List.mem_cons.1 hD with rfl | q
      · exact ⟨.inl h.below.size, World.alloc_heap_new w _⟩
      · exact d3 D q
  | some l0 =>
    obtain ⟨o1, o2, r0, o3⟩ := ho
    have h0 : w.heap[l0]? = some (.loop r0) := (h.below.block l0 o1 o2).trans o3
    exact ⟨w.heap.size, [], _, run_enterLoop_inner h0, fin _ w r0.defers rfl h⟩
def exOf : Option Code → Exit
  | some .ret => .ret
  | some (.exit id) => .exit id
  | _ => .normal
def okPd : Option Code → Bool
  | none => true
  | some .ret => true
  | some (.exit _) => true
  | _ => false
/-- for .. := range g -/
theorem AW.rangeFunc {g : Operand} {ps : Array Tmp} {asg bd : Code} {gf : FuncId} {l1 l2 : List AV} {s' : Nat → AV} {fp : List Nat} {r : AV} {wr : List (Nat × AB)} {N2 : Nat} {s2 : Nat → AV} {ps2 : Array Tmp} {a2 b2 : Code} {rdy : Bool} {pd : Option Code}
    (hg : cloParts (strp (opv σ.slot g)) = some (gf, l1, l2)) (hob : allP (obl (opv σ.slot g))) (hgr : refsIn fp (strp (opv σ.slot g)) = true) (hs : ∀ t, t < N → AV.le (σ.slot t) (s' t))
    (b3 : fp.all (fun k => refsInB fp (upd σ.name (nx * 16) (.lp N s' ps asg bd true none) k)) = true) (hLfp : has fp (nx * 16) = true) (b4 : wr.all (fun p => has fp p.1 || nmRb ((nx + 1) * 16) p.1) = true)
    (hpc : PCM P gf (l1 ++ ([.yld (nx * 16)] ++ l2)) ((nx + 1) * 16) (restr fp (upd σ.name (nx * 16) (.lp N s' ps asg bd true none))) fp r wr)
    (hL : nmw (upd σ.name (nx * 16) (.lp N s' ps asg bd true none)) wr (nx * 16) = .lp N2 s2 ps2 a2 b2 rdy pd) (hpd : okPd pd = true)
    (hK : K (exOf pd) (nx + 2) ⟨σ.slot, upd (nmw (upd σ.name (nx * 16) (.lp N s' ps asg bd true none)) wr) (nx * 16) .none⟩) : AW P S0 w0 N (.rangeFunc g ps asg bd) nx σ K := by
  refine ⟨?_⟩
  rintro ro a w ho ⟨S, κ, h⟩
  have hf0 := h.ev (x := g) hob
  refine wpIn_rangeFunc fun fn _ => ?_
  obtain ⟨l, mark, w1, he, h1⟩ := enterLoop_rel (P := P) ho h fn (ps := ps) (asg := asg) (bd := bd) hs
  have hkk : ∀ k, k ∈ fp → kres fp (upd κ (nx * 16) (some (.bx l))) k = upd κ (nx * 16) (some (.bx l)) k := fun k hk => kres_in hk
  have hk : κ (nx * 16) = none := by
    cases hκ : κ (nx * 16) with
    | none => rfl
    | some q => exact absurd (h.used (nx * 16) (by rw [hκ]; exact fun q => by cases q)) (Nat.lt_irrefl _)
  -- the function's value, in the new world
  have hcell : ∀ x, S x → w1.cell? x = w.cell? x := by
    have key : ∀ x, S x → w1.cell? x = w.cell? x := by
      cases ro with
      | none =>
        rw [show (none : Option Nat) = none from rfl, run_enterLoop_outer] at he
        cases he
        intro x hx
        have hlt := h.dfn x hx
        exact (World.cell?_of_block (Below.heap_alloc _ _ _ (by simp; omega))).trans (World.cell?_of_block (Below.heap_alloc _ _ _ hlt))
      | some l0 =>
        obtain ⟨o1, o2, r0, o3⟩ := ho
        rw [run_enterLoop_inner ((h.below.block l0 o1 o2).trans o3)] at he
        cases he
        intro x hx
        exact World.cell?_of_block (Below.heap_alloc _ _ _ (h.dfn x hx))
    exact key
  have hf : Rd S (upd κ (nx * 16) (some (.bx l))) w1 (strp (opv σ.slot g)) (a.eval g) := Rd.mono (fun _ h => h) hcell _ (upd_mono hk) _ hf0
  obtain ⟨fs, cs, hfv, e1, e2, r1, r2⟩ := cloParts_rd hg (refsIn_rd _ hgr hkk hf)
  have hnew : ∀ k, nmR ((nx + 1) * 16) k → upd κ (nx * 16) (some (.bx l)) k = none := by
    intro k hk1
    cases hq : upd κ (nx * 16) (some (.bx l)) k with
    | none => rfl
    | some q =>
      exfalso
      have := hk1.1
      rcases h1.used k (by rw [hq]; exact fun q => by cases q) with q | ⟨_, q⟩ <;> omega
  refine ⟨l, mark, w1, { target := .fn (.func gf) cs, args := fs ++ #[.func (.yield l) #[] #[]] }, w1, gf, fs ++ #[.func (.yield l) #[] #[]] ++ cs, w1, he, ?_, fun _ _ => trivial, ?_, (fun q => by cases q), ?_⟩
  · simp [resolve, hfv, Deferred.ofValue]
    try rfl
  · simp [invoke, hpc.1]
  refine callsIn_fnc.2 ((h1.callPCM hnew hpc b3 b4 (by simp [e1, e2]; omega) (fun i hi => ?_)).mono ?_)
  · have hi' : i < l1.length + (1 + l2.length) := by simpa [Nat.add_comm] using hi
    by_cases c1 : i < l1.length
    · rw [lis_l c1, arr_l (by rw [Array.size_append]; omega), arr_l (by omega)]
      exact r1 i c1
    · rw [lis_r (by omega)]
      by_cases c2 : i = l1.length
      · subst c2
        rw [lis_l (by simp), arr_l (by simp; omega), arr_r (by omega), e1, Nat.sub_self]
        exact ⟨l, (kres_in (has_iff.1 hLfp)).trans (upd_own _ _ _), rfl⟩
      · rw [lis_r (by simp; omega), arr_r (by simp; omega)]
        have := r2 (i - l1.length - 1) (by omega)
        rw [show i - (fs ++ #[Value.func (Fn.yield l) #[] #[]]).size = i - l1.length - 1 from by simp; omega]
        simpa using this
  · rintro e w2 ⟨v, S2, κ2, rfl, h2, h3, _⟩
    have hnL := h2.names (nx * 16)
    rw [show (⟨σ.slot, nmw (upd σ.name (nx * 16) (.lp N s' ps asg bd true none)) wr⟩ : ASt).name (nx * 16) = .lp N2 s2 ps2 a2 b2 rdy pd from hL] at hnL
    have hlive : nmw (upd σ.name (nx * 16) (.lp N s' ps asg bd true none)) wr (nx * 16) ≠ .none := by rw [hL]; exact fun q => by cases q
    have hkl : κ2 (nx * 16) = some (.bx l) := h3 _ _ (upd_own _ _ _)
    obtain ⟨b, rec, g1, g2, g3, g4, g5, g6, _⟩ := hnL
    rw [hkl] at g1
    cases g1
    have hst : rec.state ≠ .busy := by rw [g4]; cases rdy <;> exact fun q => by cases q
    refine ⟨rec.pending, _, run_endLoop g3 hst, ?_⟩
    have h4 := (h2.drop (nx * 16)).putLoop (r' := { rec with state := .exhausted }) g3 g2 (fun k hk' hb => by
      by_cases c : k = nx * 16
      · subst c; exact hk' (upd_own _ _ _)
      · rw [show (⟨σ.slot, upd (nmw (upd σ.name (nx * 16) (.lp N s' ps asg bd true none)) wr) (nx * 16) .none⟩ : ASt).name k = nmw (upd σ.name (nx * 16) (.lp N s' ps asg bd true none)) wr k from upd_ne _ _ c] at hk'
        exact c (h2.inj k (nx * 16) l hk' hlive hb (by rw [hkl]; rfl)))
    have h5 := h4.more (U' := fun k => k < (nx + 2) * 16) (fun k hk => by rcases hk with (q | ⟨_, q⟩) | ⟨_, q⟩ <;> omega)
    rw [g5] at h5 ⊢
    cases pd with
    | none => exact ⟨_, _, hK, S2, κ2, h5⟩
    | some c =>
      cases c with
      | ret => exact wpIn_ret ⟨_, _, hK, S2, κ2, h5⟩
      | exit id => exact wpIn_exit ⟨_, _, hK, S2, κ2, h5⟩
      | _ => cases hpd
end
end Go.Proofs.Ytaemlmpcclfmdaa
