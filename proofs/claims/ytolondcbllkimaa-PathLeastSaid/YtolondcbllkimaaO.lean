/- Helpers: drives and targets. -/
import Derived.Test.YtolondcbllkimaaB
import Derived.Test.YtolondcbllkimaaD
import Derived.Test.YtolondcbllkimaaE
namespace Go.Proofs.Ytolondcbllkimaa
open Go.RowKit Go.Shelf Go.Sort
attribute [local go_sem] idx3_0 idx3_1 idx3_2 old1 fro1 old2 fro2 old3 fro3 old4 fro4 old5 fro5 old6 fro6 old7 fro7 old8 fro8 old9 fro9 old10 fro10 old11 fro11 old12 fro12
def dr1 (t lo hi ra : Int) : Bool := wi t 1 3600 && wi lo (-20000) 20000 && wi hi (-20000) 20000 && wi ra 0 40000
set_option maxRecDepth 100000 in
set_option maxHeartbeats 800000 in
theorem checkDrive1_any (b : Nat) (t lo hi st ra : Int) (w : World) (d0 : w.cell? ⟨b, 0, none⟩ = some (.int .i64 t)) (d1 : w.cell? ⟨b, 1, none⟩ = some (.int .i64 lo)) (d2 : w.cell? ⟨b, 2, none⟩ = some (.int .i64 hi)) (_ : w.cell? ⟨b, 3, none⟩ = some (.int .i64 st)) (d4 : w.cell? ⟨b, 4, none⟩ = some (.int .i64 ra)) :
    Calls Try.prog 71 #[.pointer (some ⟨b, 0, none⟩)] w fun e w' => e = .returned (.bool (dr1 t lo hi ra)) ∧ w = w' := by
  go_enter Try.func71, Try.ntmps71
  go_wp2_with (go_at_call 45; refine (within_any _ _ _ _).mono ?_; rintro e w' ⟨rfl, rfl⟩)
  all_goals (go_ret; exact ⟨ret_bool (by unfold dr1; simp [*]), rfl⟩)
set_option maxRecDepth 100000 in
set_option maxHeartbeats 800000 in
theorem checkDrive2_any (b : Nat) (t lo hi st ra : Int) (w : World) (_ : w.cell? ⟨b, 0, none⟩ = some (.int .i64 t)) (d1 : w.cell? ⟨b, 1, none⟩ = some (.int .i64 lo)) (d2 : w.cell? ⟨b, 2, none⟩ = some (.int .i64 hi)) (_ : w.cell? ⟨b, 3, none⟩ = some (.int .i64 st)) (_ : w.cell? ⟨b, 4, none⟩ = some (.int .i64 ra)) :
    Calls Try.prog 72 #[.pointer (some ⟨b, 0, none⟩)] w fun e w' => e = .returned (.bool (decide (lo ≤ hi))) ∧ w = w' := by
  go_enter Try.func72, Try.ntmps72
  go_wp2
  go_ret
  exact ⟨rfl, rfl⟩
set_option maxRecDepth 100000 in
set_option maxHeartbeats 800000 in
theorem checkDrive3_any (b : Nat) (t lo hi st ra : Int) (w : World) (_ : w.cell? ⟨b, 0, none⟩ = some (.int .i64 t)) (d1 : w.cell? ⟨b, 1, none⟩ = some (.int .i64 lo)) (d2 : w.cell? ⟨b, 2, none⟩ = some (.int .i64 hi)) (d3 : w.cell? ⟨b, 3, none⟩ = some (.int .i64 st)) (_ : w.cell? ⟨b, 4, none⟩ = some (.int .i64 ra)) :
    Calls Try.prog 73 #[.pointer (some ⟨b, 0, none⟩)] w fun e w' => e = .returned (.bool (wi st lo hi)) ∧ w = w' := by
  go_enter Try.func73, Try.ntmps73
  go_wp2_with (go_at_call 45; refine (within_any _ _ _ _).mono ?_; rintro e w' ⟨rfl, rfl⟩)
  go_ret
  exact ⟨rfl, rfl⟩
def driveErr (t lo hi st ra : Int) : Int := if dr1 t lo hi ra then (if decide (lo ≤ hi) then (if wi st lo hi then 0 else 2) else 9) else 2
def CKD (W : World) (L b c1 e1 c2 e2 c3 e3 : Nat) (t lo hi st ra : Int) : Prop :=
  (W.cell? ⟨L, 0, none⟩ = some (.func (.func 105) #[] #[.pointer (some ⟨c1, 0, none⟩), .pointer (some ⟨e1, 0, none⟩)]) ∧ W.cell? ⟨L, 1, none⟩ = some (.func (.func 105) #[] #[.pointer (some ⟨c2, 0, none⟩), .pointer (some ⟨e2, 0, none⟩)]) ∧ W.cell? ⟨L, 2, none⟩ = some (.func (.func 105) #[] #[.pointer (some ⟨c3, 0, none⟩), .pointer (some ⟨e3, 0, none⟩)])) ∧
  (W.cell? ⟨c1, 0, none⟩ = some (.func (.func 71) #[] #[.pointer (some ⟨b, 0, none⟩)]) ∧ W.cell? ⟨c2, 0, none⟩ = some (.func (.func 72) #[] #[.pointer (some ⟨b, 0, none⟩)]) ∧ W.cell? ⟨c3, 0, none⟩ = some (.func (.func 73) #[] #[.pointer (some ⟨b, 0, none⟩)])) ∧
  (W.cell? ⟨e1, 0, none⟩ = some (.int .i64 2) ∧ W.cell? ⟨e2, 0, none⟩ = some (.int .i64 9) ∧ W.cell? ⟨e3, 0, none⟩ = some (.int .i64 2)) ∧ (W.cell? ⟨b, 0, none⟩ = some (.int .i64 t) ∧ W.cell? ⟨b, 1, none⟩ = some (.int .i64 lo) ∧ W.cell? ⟨b, 2, none⟩ = some (.int .i64 hi) ∧ W.cell? ⟨b, 3, none⟩ = some (.int .i64 st) ∧ W.cell? ⟨b, 4, none⟩ = some (.int .i64 ra))
theorem checkD_any (W : World) (L b c1 e1 c2 e2 c3 e3 : Nat) (t lo hi st ra : Int) (h : CKD W L b c1 e1 c2 e2 c3 e3 t lo hi st ra) :
    Calls Try.prog 46 #[.slice (some ⟨L, 0, none⟩) 3 3] W fun e w' => e = .returned (.int .i64 (driveErr t lo hi st ra)) ∧ Below W.heap.size W w' := by
  obtain ⟨⟨l0, l1, l2⟩, ⟨a0, a1, a2⟩, ⟨b0, b1, b2⟩, ⟨d0, d1, d2, d3, d4⟩⟩ := h
  have hr : ferr (fun i => if i = 0 then (if dr1 t lo hi ra then 0 else 2) else if i = 1 then (if decide (lo ≤ hi) then 0 else 9) else (if wi st lo hi then 0 else 2)) 0 3 = driveErr t lo hi st ra := by
    simp only [ferr, driveErr]
    cases dr1 t lo hi ra <;> cases decide (lo ≤ hi) <;> cases wi st lo hi <;> rfl
  rw [← hr]
  refine firstError_any L 3 (fun _ => 105) (fun i => if i = 0 then #[.pointer (some ⟨c1, 0, none⟩), .pointer (some ⟨e1, 0, none⟩)] else if i = 1 then #[.pointer (some ⟨c2, 0, none⟩), .pointer (some ⟨e2, 0, none⟩)] else #[.pointer (some ⟨c3, 0, none⟩), .pointer (some ⟨e3, 0, none⟩)])
    _ W (by omega) (lt_of l0) ?_ (fun _ _ => (enters_of Try.func105 (by kernel_rfl) rfl)) ?_
  · intro i hi
    rcases (by omega : i = 0 ∨ i = 1 ∨ i = 2) with rfl | rfl | rfl
    · exact l0
    · exact l1
    · exact l2
  · intro i w1 hj hz hb
    rcases (by omega : i = 0 ∨ i = 1 ∨ i = 2) with rfl | rfl | rfl
    · exact require1_any c1 e1 71 _ 2 _ w1 (keep hb a0) (keep hb b0) (lt_of (keep hb b0)) (enters_of Try.func71 (by kernel_rfl) rfl) (grows_of (checkDrive1_any b t lo hi st ra w1 (keep hb d0) (keep hb d1) (keep hb d2) (keep hb d3) (keep hb d4)))
    · exact require1_any c2 e2 72 _ 9 _ w1 (keep hb a1) (keep hb b1) (lt_of (keep hb b1)) (enters_of Try.func72 (by kernel_rfl) rfl) (grows_of (checkDrive2_any b t lo hi st ra w1 (keep hb d0) (keep hb d1) (keep hb d2) (keep hb d3) (keep hb d4)))
    · exact require1_any c3 e3 73 _ 2 _ w1 (keep hb a2) (keep hb b2) (lt_of (keep hb b2)) (enters_of Try.func73 (by kernel_rfl) rfl) (grows_of (checkDrive3_any b t lo hi st ra w1 (keep hb d0) (keep hb d1) (keep hb d2) (keep hb d3) (keep hb d4)))
set_option maxRecDepth 100000 in
set_option maxHeartbeats 800000 in
theorem checkDrive_any (t lo hi st ra : Int) (w : World) :
    Calls Try.prog 32 #[.agg #[.int .i64 t, .int .i64 lo, .int .i64 hi, .int .i64 st, .int .i64 ra]] w fun e w' => e = .returned (.int .i64 (driveErr t lo hi st ra)) ∧ Below w.heap.size w w' := by
  go_enter Try.func32, Try.ntmps32
  go_wp2_with (first | (go_at_call 59; refine (require_any _ _ _ _).mono ?_; rintro e w1 ⟨rfl, rfl⟩) | (go_at_call 46; (with_reducible refine Calls.mono (checkD_any _ (w.heap.size + 1 + 1 + 1 + 1 + 1 + 1 + 1) w.heap.size (w.heap.size + 1 + 1) (w.heap.size + 1) (w.heap.size + 1 + 1 + 1 + 1) (w.heap.size + 1 + 1 + 1) (w.heap.size + 1 + 1 + 1 + 1 + 1 + 1) (w.heap.size + 1 + 1 + 1 + 1 + 1) t lo hi st ra ?_) ?_); (focus (refine ⟨⟨?_, ?_, ?_⟩, ⟨?_, ?_, ?_⟩, ⟨?_, ?_, ?_⟩, ⟨?_, ?_, ?_, ?_, ?_⟩⟩ <;> (simp [go_sem]; done))); rintro e w1 ⟨rfl, hb1⟩))
  go_ret
  exact ⟨rfl, (by (repeat (first | with_reducible exact Below.refl _ _ | with_reducible assumption | with_reducible refine Below.alloc ?_ (by first | (simp; done) | (simp; omega) | omega) _ | with_reducible refine Below.setCell ?_ (by first | (simp; done) | (simp; omega) | omega) _ | with_reducible refine Below.drew ?_ | with_reducible refine below_drewN ?_ _)) : Below w.heap.size w _).trans (hb1.mono (by first | (simp; done) | (simp; omega) | omega))⟩
end Go.Proofs.Ytolondcbllkimaa
