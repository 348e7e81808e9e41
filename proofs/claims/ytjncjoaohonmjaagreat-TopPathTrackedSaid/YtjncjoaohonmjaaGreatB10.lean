/- Helpers: drives and targets. -/
import Derived.Test.YtjncjoaohonmjaaGreatB00
import Derived.Test.YtjncjoaohonmjaaGreatB01
import Derived.Test.YtjncjoaohonmjaaGreatB09
import Derived.OwnWalk
import Derived.Maps.AppendAt
namespace Go.Proofs.YtjncjoaohonmjaaGreat
open Go.RowKit Go.Shelf Go.Sort
attribute [local go_sem] idx3_0 idx3_1 idx3_2 old1 fro1 old2 fro2 old3 fro3 old4 fro4 old5 fro5 old6 fro6 old7 fro7 old8 fro8 old9 fro9 old10 fro10 old11 fro11 old12 fro12
def dr1 (t lo hi ra : Int) : Bool := wi t 1 3600 && wi lo (-20000) 20000 && wi hi (-20000) 20000 && wi ra 0 40000
set_option maxRecDepth 100000 in
set_option maxHeartbeats 800000 in
theorem checkDrive1_any (b : Nat) (t lo hi st ra : Int) (w : World) (d0 : w.cell? ⟨b, 0, none⟩ = some (.int .i64 t)) (d1 : w.cell? ⟨b, 1, none⟩ = some (.int .i64 lo)) (d2 : w.cell? ⟨b, 2, none⟩ = some (.int .i64 hi)) (_ : w.cell? ⟨b, 3, none⟩ = some (.int .i64 st)) (d4 : w.cell? ⟨b, 4, none⟩ = some (.int .i64 ra)) :
    Calls Tryz.prog 110 #[.pointer (some ⟨b, 0, none⟩)] w fun e w' => e = .returned (.bool (dr1 t lo hi ra)) ∧ w = w' := by
  go_enter Tryz.func110, Tryz.ntmps110
  go_wp2_with (go_at_call 48; refine (within_any _ _ _ _).mono ?_; rintro e w' ⟨rfl, rfl⟩)
  all_goals (go_ret; exact ⟨ret_bool (by unfold dr1; simp [*]), rfl⟩)
set_option maxRecDepth 100000 in
set_option maxHeartbeats 800000 in
theorem checkDrive2_any (b : Nat) (t lo hi st ra : Int) (w : World) (_ : w.cell? ⟨b, 0, none⟩ = some (.int .i64 t)) (d1 : w.cell? ⟨b, 1, none⟩ = some (.int .i64 lo)) (d2 : w.cell? ⟨b, 2, none⟩ = some (.int .i64 hi)) (_ : w.cell? ⟨b, 3, none⟩ = some (.int .i64 st)) (_ : w.cell? ⟨b, 4, none⟩ = some (.int .i64 ra)) :
    Calls Tryz.prog 111 #[.pointer (some ⟨b, 0, none⟩)] w fun e w' => e = .returned (.bool (decide (lo ≤ hi))) ∧ w = w' := by
  go_enter Tryz.func111, Tryz.ntmps111
  go_wp2
  go_ret
  exact ⟨rfl, rfl⟩
set_option maxRecDepth 100000 in
set_option maxHeartbeats 800000 in
theorem checkDrive3_any (b : Nat) (t lo hi st ra : Int) (w : World) (_ : w.cell? ⟨b, 0, none⟩ = some (.int .i64 t)) (d1 : w.cell? ⟨b, 1, none⟩ = some (.int .i64 lo)) (d2 : w.cell? ⟨b, 2, none⟩ = some (.int .i64 hi)) (d3 : w.cell? ⟨b, 3, none⟩ = some (.int .i64 st)) (_ : w.cell? ⟨b, 4, none⟩ = some (.int .i64 ra)) :
    Calls Tryz.prog 112 #[.pointer (some ⟨b, 0, none⟩)] w fun e w' => e = .returned (.bool (wi st lo hi)) ∧ w = w' := by
  go_enter Tryz.func112, Tryz.ntmps112
  go_wp2_with (go_at_call 48; refine (within_any _ _ _ _).mono ?_; rintro e w' ⟨rfl, rfl⟩)
  go_ret
  exact ⟨rfl, rfl⟩
def driveErr (t lo hi st ra : Int) : Int := if dr1 t lo hi ra then (if decide (lo ≤ hi) then (if wi st lo hi then 0 else 2) else 9) else 2
def CKD (W : World) (L b c1 e1 c2 e2 c3 e3 : Nat) (t lo hi st ra : Int) : Prop :=
  (W.cell? ⟨L, 0, none⟩ = some (.func (.func 97) #[] #[.pointer (some ⟨c1, 0, none⟩), .pointer (some ⟨e1, 0, none⟩)]) ∧ W.cell? ⟨L, 1, none⟩ = some (.func (.func 97) #[] #[.pointer (some ⟨c2, 0, none⟩), .pointer (some ⟨e2, 0, none⟩)]) ∧ W.cell? ⟨L, 2, none⟩ = some (.func (.func 97) #[] #[.pointer (some ⟨c3, 0, none⟩), .pointer (some ⟨e3, 0, none⟩)])) ∧
  (W.cell? ⟨c1, 0, none⟩ = some (.func (.func 110) #[] #[.pointer (some ⟨b, 0, none⟩)]) ∧ W.cell? ⟨c2, 0, none⟩ = some (.func (.func 111) #[] #[.pointer (some ⟨b, 0, none⟩)]) ∧ W.cell? ⟨c3, 0, none⟩ = some (.func (.func 112) #[] #[.pointer (some ⟨b, 0, none⟩)])) ∧
  (W.cell? ⟨e1, 0, none⟩ = some (.int .i64 2) ∧ W.cell? ⟨e2, 0, none⟩ = some (.int .i64 9) ∧ W.cell? ⟨e3, 0, none⟩ = some (.int .i64 2)) ∧ (W.cell? ⟨b, 0, none⟩ = some (.int .i64 t) ∧ W.cell? ⟨b, 1, none⟩ = some (.int .i64 lo) ∧ W.cell? ⟨b, 2, none⟩ = some (.int .i64 hi) ∧ W.cell? ⟨b, 3, none⟩ = some (.int .i64 st) ∧ W.cell? ⟨b, 4, none⟩ = some (.int .i64 ra))
theorem checkD_any (W : World) (L b c1 e1 c2 e2 c3 e3 : Nat) (t lo hi st ra : Int) (h : CKD W L b c1 e1 c2 e2 c3 e3 t lo hi st ra) :
    Calls Tryz.prog 29 #[.slice (some ⟨L, 0, none⟩) 3 3] W fun e w' => e = .returned (.int .i64 (driveErr t lo hi st ra)) ∧ Below W.heap.size W w' := by
  obtain ⟨⟨l0, l1, l2⟩, ⟨a0, a1, a2⟩, ⟨b0, b1, b2⟩, ⟨d0, d1, d2, d3, d4⟩⟩ := h
  have hr : ferr (fun i => if i = 0 then (if dr1 t lo hi ra then 0 else 2) else if i = 1 then (if decide (lo ≤ hi) then 0 else 9) else (if wi st lo hi then 0 else 2)) 0 3 = driveErr t lo hi st ra := by
    simp only [ferr, driveErr]
    cases dr1 t lo hi ra <;> cases decide (lo ≤ hi) <;> cases wi st lo hi <;> rfl
  rw [← hr]
  refine firstError_any L 3 (fun _ => 97) (fun i => if i = 0 then #[.pointer (some ⟨c1, 0, none⟩), .pointer (some ⟨e1, 0, none⟩)] else if i = 1 then #[.pointer (some ⟨c2, 0, none⟩), .pointer (some ⟨e2, 0, none⟩)] else #[.pointer (some ⟨c3, 0, none⟩), .pointer (some ⟨e3, 0, none⟩)])
    _ W (by omega) (lt_of l0) ?_ (fun _ _ => (enters_of Tryz.func97 (by kernel_rfl) rfl)) ?_
  · intro i hi
    rcases (by omega : i = 0 ∨ i = 1 ∨ i = 2) with rfl | rfl | rfl
    · exact l0
    · exact l1
    · exact l2
  · intro i w1 hj hz hb
    rcases (by omega : i = 0 ∨ i = 1 ∨ i = 2) with rfl | rfl | rfl
    · exact require1_any c1 e1 110 _ 2 _ w1 (keep hb a0) (keep hb b0) (lt_of (keep hb b0)) (enters_of Tryz.func110 (by kernel_rfl) rfl) (grows_of (checkDrive1_any b t lo hi st ra w1 (keep hb d0) (keep hb d1) (keep hb d2) (keep hb d3) (keep hb d4)))
    · exact require1_any c2 e2 111 _ 9 _ w1 (keep hb a1) (keep hb b1) (lt_of (keep hb b1)) (enters_of Tryz.func111 (by kernel_rfl) rfl) (grows_of (checkDrive2_any b t lo hi st ra w1 (keep hb d0) (keep hb d1) (keep hb d2) (keep hb d3) (keep hb d4)))
    · exact require1_any c3 e3 112 _ 2 _ w1 (keep hb a2) (keep hb b2) (lt_of (keep hb b2)) (enters_of Tryz.func112 (by kernel_rfl) rfl) (grows_of (checkDrive3_any b t lo hi st ra w1 (keep hb d0) (keep hb d1) (keep hb d2) (keep hb d3) (keep hb d4)))
set_option maxRecDepth 100000 in
set_option maxHeartbeats 800000 in
theorem checkDrive_any (t lo hi st ra : Int) (w : World) :
    Calls Tryz.prog 85 #[.agg #[.int .i64 t, .int .i64 lo, .int .i64 hi, .int .i64 st, .int .i64 ra]] w fun e w' => e = .returned (.int .i64 (driveErr t lo hi st ra)) ∧ Below w.heap.size w w' := by
  go_enter Tryz.func85, Tryz.ntmps85
  go_wp2_with (first | (go_at_call 46; refine (require_any _ _ _ _).mono ?_; rintro e w1 ⟨rfl, rfl⟩) | (go_at_call 29; (with_reducible refine Calls.mono (checkD_any _ (w.heap.size + 1 + 1 + 1 + 1 + 1 + 1 + 1) w.heap.size (w.heap.size + 1 + 1) (w.heap.size + 1) (w.heap.size + 1 + 1 + 1 + 1) (w.heap.size + 1 + 1 + 1) (w.heap.size + 1 + 1 + 1 + 1 + 1 + 1) (w.heap.size + 1 + 1 + 1 + 1 + 1) t lo hi st ra ?_) ?_); (focus (refine ⟨⟨?_, ?_, ?_⟩, ⟨?_, ?_, ?_⟩, ⟨?_, ?_, ?_⟩, ⟨?_, ?_, ?_, ?_, ?_⟩⟩ <;> (simp [go_sem]; done))); rintro e w1 ⟨rfl, hb1⟩))
  go_ret
  exact ⟨rfl, (by (repeat (first | with_reducible exact Below.refl _ _ | with_reducible assumption | with_reducible refine Below.alloc ?_ (by first | (simp; done) | (simp; omega) | omega) _ | with_reducible refine Below.setCell ?_ (by first | (simp; done) | (simp; omega) | omega) _ | with_reducible refine Below.drew ?_ | with_reducible refine below_drewN ?_ _)) : Below w.heap.size w _).trans (hb1.mono (by first | (simp; done) | (simp; omega) | omega))⟩
end Go.Proofs.YtjncjoaohonmjaaGreat
namespace Go.Proofs.YtjncjoaohonmjaaGreat
open Go.RowKit Go.Shelf Go.Sort
attribute [local go_sem] idx3_0 idx3_1 idx3_2 old1 fro1 old2 fro2 old3 fro3 old4 fro4 old5 fro5 old6 fro6 old7 fro7 old8 fro8 old9 fro9 old10 fro10 old11 fro11 old12 fro12
set_option maxRecDepth 100000 in
set_option maxHeartbeats 400000 in
theorem indexFunc_int0 (g : Nat) (cb : Array Value) (c : Nat) (A : Option Addr) (w : World) :
    Calls Tryz.prog 113 #[.slice A 0 c, .func (.func g) #[] cb] w fun e w' => e = .returned (.int .i64 (-1)) ∧ w = w' := by
  go_enter Tryz.func113, Tryz.ntmps113
  go_wp2_with fail
  refine wp_loop_rounds 1 ?_
  rw [rounds_succ]
  go_wp2
  go_ret
  exact ⟨rfl, rfl⟩
set_option maxRecDepth 100000 in
set_option maxHeartbeats 400000 in
theorem containsFunc_int0 (g : Nat) (cb : Array Value) (c : Nat) (A : Option Addr) (w : World) :
    Calls Tryz.prog 88 #[.slice A 0 c, .func (.func g) #[] cb] w fun e w' => e = .returned (.bool false) ∧ w = w' := by
  go_enter Tryz.func88, Tryz.ntmps88
  go_wp2_with (go_at_call 113; refine (indexFunc_int0 _ _ _ _ _).mono ?_; rintro e w1 ⟨rfl, rfl⟩)
  go_ret
  exact ⟨rfl, rfl⟩
/-- Whole numbers in memory. -/
def IA (w : World) (A : Option Addr) (n : Nat) (xs : Nat → Int) : Prop := 0 < n → ∃ b off, A = some ⟨b, off, none⟩ ∧ ∀ i, i < n → w.cell? ⟨b, off + i, none⟩ = some (.int .i64 (xs i))
theorem IA.below {w w1 : World} {A : Option Addr} {n : Nat} {xs : Nat → Int} (h : IA w A n xs) (hb : Below w.heap.size w w1) : IA w1 A n xs := fun h0 => by
  obtain ⟨b, off, e, hc⟩ := h h0
  exact ⟨b, off, e, fun i hi => keep hb (hc i hi)⟩
set_option maxRecDepth 100000 in
set_option maxHeartbeats 800000 in
theorem target1_any (x : Int) (b : Nat) (t : Int) (w : World) (d0 : w.cell? ⟨b, 0, none⟩ = some (.int .i64 t)) (h1 : 1 ≤ t) (h2 : t ≤ 3600) :
    Calls Tryz.prog 89 #[.int .i64 x, .pointer (some ⟨b, 0, none⟩)] w fun e w' => e = .returned (.bool (!wi x 0 (t - 1))) ∧ w = w' := by
  go_enter Tryz.func89, Tryz.ntmps89
  go_wp2_with (go_at_call 48; refine (within_any _ _ _ _).mono ?_; rintro e w' ⟨rfl, rfl⟩)
  go_ret
  exact ⟨rfl, rfl⟩
theorem targets_any (A : Option Addr) (n c : Nat) (xs : Nat → Int) (b : Nat) (t : Int) (w : World) (hn : n ≤ 1000000) (hA : IA w A n xs) (d0 : w.cell? ⟨b, 0, none⟩ = some (.int .i64 t)) (h1 : 1 ≤ t) (h2 : t ≤ 3600) :
    Calls Tryz.prog 88 #[.slice A n c, .func (.func 89) #[] #[.pointer (some ⟨b, 0, none⟩)]] w fun e w' => e = .returned (.bool ((List.range n).any fun i => !wi (xs i) 0 (t - 1))) ∧ w = w' := by
  by_cases h0 : n = 0
  · subst h0
    exact containsFunc_int0 _ _ c A w
  · obtain ⟨bb, off, rfl, hc⟩ := hA (by omega)
    exact containsFunc_int _ _ n c bb off xs (fun i => !wi (xs i) 0 (t - 1)) w (enters_of Tryz.func89 (by kernel_rfl) rfl) hn hc (fun i hi => target1_any (xs i) b t w d0 h1 h2)
set_option maxRecDepth 100000 in
set_option maxHeartbeats 800000 in
theorem checkTargets1_any (b : Nat) (t lo hi st ra : Int) (w : World) (d0 : w.cell? ⟨b, 0, none⟩ = some (.int .i64 t)) (d1 : w.cell? ⟨b, 1, none⟩ = some (.int .i64 lo)) (d2 : w.cell? ⟨b, 2, none⟩ = some (.int .i64 hi)) (d3 : w.cell? ⟨b, 3, none⟩ = some (.int .i64 st)) (d4 : w.cell? ⟨b, 4, none⟩ = some (.int .i64 ra)) :
    Calls Tryz.prog 84 #[.pointer (some ⟨b, 0, none⟩)] w fun e w' => e = .returned (.int .i64 (driveErr t lo hi st ra)) ∧ Below w.heap.size w w' := by
  go_enter Tryz.func84, Tryz.ntmps84
  go_wp2_with (go_at_call 85; (with_reducible refine (checkDrive_any t lo hi st ra _).mono ?_); rintro e w1 ⟨rfl, hb1⟩)
  go_ret
  exact ⟨rfl, hb1⟩
set_option maxRecDepth 100000 in
set_option maxHeartbeats 800000 in
theorem checkTargets2_any (b : Nat) (A : Option Addr) (n c : Nat) (w : World) (_ : n ≤ 9223372036854775807) (s0 : w.cell? ⟨b, 0, none⟩ = some (.slice A n c)) :
    Calls Tryz.prog 86 #[.pointer (some ⟨b, 0, none⟩)] w fun e w' => e = .returned (.bool (decide ((n : Int) ≤ 40))) ∧ w = w' := by
  go_enter Tryz.func86, Tryz.ntmps86
  go_wp2
  go_ret
  exact ⟨rfl, rfl⟩
set_option maxRecDepth 100000 in
set_option maxHeartbeats 800000 in
theorem checkTargets3_any (bs bd : Nat) (A : Option Addr) (n c : Nat) (xs : Nat → Int) (t : Int) (w : World) (hn : n ≤ 1000000) (s0 : w.cell? ⟨bs, 0, none⟩ = some (.slice A n c)) (hA : IA w A n xs) (d0 : w.cell? ⟨bd, 0, none⟩ = some (.int .i64 t)) (h1 : 1 ≤ t) (h2 : t ≤ 3600) :
    Calls Tryz.prog 87 #[.pointer (some ⟨bs, 0, none⟩), .pointer (some ⟨bd, 0, none⟩)] w fun e w' => e = .returned (.bool (!(List.range n).any fun i => !wi (xs i) 0 (t - 1))) ∧ w = w' := by
  have HC := Lib.hid (targets_any A n c xs bd t w hn hA d0 h1 h2)
  clear hA
  generalize (List.range n).any (fun i => !wi (xs i) 0 (t - 1)) = r at *
  go_enter Tryz.func87, Tryz.ntmps87
  go_wp2_with (go_at_call 88; (with_reducible refine Calls.mono HC.out ?_); rintro e w1 ⟨rfl, rfl⟩)
  go_ret
  exact ⟨rfl, rfl⟩
/-- The error of targets of a valid drive. -/
def tgErr (n : Nat) (xs : Nat → Int) (t : Int) : Int := if decide ((n : Int) ≤ 40) then (if !(List.range n).any fun i => !wi (xs i) 0 (t - 1) then 0 else 2) else 8
def ptErr (t lo hi st ra : Int) (n : Nat) (xs : Nat → Int) : Int := if driveErr t lo hi st ra = 0 then tgErr n xs t else driveErr t lo hi st ra
theorem drive_ok {t lo hi st ra : Int} (h : driveErr t lo hi st ra = 0) : (1 ≤ t ∧ t ≤ 3600) ∧ (-20000 ≤ lo ∧ lo ≤ 20000) ∧ (-20000 ≤ hi ∧ hi ≤ 20000) ∧ (0 ≤ ra ∧ ra ≤ 40000) ∧ lo ≤ st ∧ st ≤ hi := by
  unfold driveErr dr1 at h
  cases h1 : wi t 1 3600 <;> cases h2 : wi lo (-20000) 20000 <;> cases h3 : wi hi (-20000) 20000 <;> cases h4 : wi ra 0 40000 <;> cases h5 : decide (lo ≤ hi) <;> cases h6 : wi st lo hi <;> simp [h1, h2, h3, h4, h6] at h
  all_goals first | (simp at h5; omega) | exact ⟨wi_t.1 h1, wi_t.1 h2, wi_t.1 h3, wi_t.1 h4, (wi_t.1 h6).1, (wi_t.1 h6).2⟩
def CKT (W : World) (L b s c2 e2 c3 e3 : Nat) (t lo hi st ra : Int) (A : Option Addr) (n c : Nat) : Prop :=
  (W.cell? ⟨L, 0, none⟩ = some (.func (.func 84) #[] #[.pointer (some ⟨b, 0, none⟩)]) ∧ W.cell? ⟨L, 1, none⟩ = some (.func (.func 97) #[] #[.pointer (some ⟨c2, 0, none⟩), .pointer (some ⟨e2, 0, none⟩)]) ∧ W.cell? ⟨L, 2, none⟩ = some (.func (.func 97) #[] #[.pointer (some ⟨c3, 0, none⟩), .pointer (some ⟨e3, 0, none⟩)])) ∧
  (W.cell? ⟨c2, 0, none⟩ = some (.func (.func 86) #[] #[.pointer (some ⟨s, 0, none⟩)]) ∧ W.cell? ⟨c3, 0, none⟩ = some (.func (.func 87) #[] #[.pointer (some ⟨s, 0, none⟩), .pointer (some ⟨b, 0, none⟩)])) ∧
  (W.cell? ⟨e2, 0, none⟩ = some (.int .i64 8) ∧ W.cell? ⟨e3, 0, none⟩ = some (.int .i64 2)) ∧ W.cell? ⟨s, 0, none⟩ = some (.slice A n c) ∧ (W.cell? ⟨b, 0, none⟩ = some (.int .i64 t) ∧ W.cell? ⟨b, 1, none⟩ = some (.int .i64 lo) ∧ W.cell? ⟨b, 2, none⟩ = some (.int .i64 hi) ∧ W.cell? ⟨b, 3, none⟩ = some (.int .i64 st) ∧ W.cell? ⟨b, 4, none⟩ = some (.int .i64 ra))
theorem checkT_any (W : World) (L b s c2 e2 c3 e3 : Nat) (t lo hi st ra : Int) (A : Option Addr) (n c : Nat) (xs : Nat → Int) (hn : n ≤ 9223372036854775807) (hA : IA W A n xs) (h : CKT W L b s c2 e2 c3 e3 t lo hi st ra A n c) :
    Calls Tryz.prog 29 #[.slice (some ⟨L, 0, none⟩) 3 3] W fun e w' => e = .returned (.int .i64 (ptErr t lo hi st ra n xs)) ∧ Below W.heap.size W w' := by
  obtain ⟨⟨l0, l1, l2⟩, ⟨a1, a2⟩, ⟨b1, b2⟩, s0, ⟨d0, d1, d2, d3, d4⟩⟩ := h
  have hr : ferr (fun i => if i = 0 then driveErr t lo hi st ra else if i = 1 then (if decide ((n : Int) ≤ 40) then 0 else 8) else (if !(List.range n).any fun i => !wi (xs i) 0 (t - 1) then 0 else 2)) 0 3 = ptErr t lo hi st ra n xs := by
    simp only [ferr, ptErr, tgErr]
    by_cases hd : driveErr t lo hi st ra = 0
    · simp only [hd, if_true]
      cases decide ((n : Int) ≤ 40) <;> cases (List.range n).any (fun i => !wi (xs i) 0 (t - 1)) <;> rfl
    · simp [hd]
  rw [← hr]
  refine firstError_any L 3 (fun i => if i = 0 then 84 else 97) (fun i => if i = 0 then #[.pointer (some ⟨b, 0, none⟩)] else if i = 1 then #[.pointer (some ⟨c2, 0, none⟩), .pointer (some ⟨e2, 0, none⟩)] else #[.pointer (some ⟨c3, 0, none⟩), .pointer (some ⟨e3, 0, none⟩)])
    _ W (by omega) (lt_of l0) ?_ ?_ ?_
  · intro i hj
    rcases (by omega : i = 0 ∨ i = 1 ∨ i = 2) with rfl | rfl | rfl
    · exact l0
    · exact l1
    · exact l2
  · intro i hj
    rcases (by omega : i = 0 ∨ i = 1 ∨ i = 2) with rfl | rfl | rfl
    · exact (enters_of Tryz.func84 (by kernel_rfl) rfl)
    · exact (enters_of Tryz.func97 (by kernel_rfl) rfl)
    · exact (enters_of Tryz.func97 (by kernel_rfl) rfl)
  · intro i w1 hj hz hb
    rcases (by omega : i = 0 ∨ i = 1 ∨ i = 2) with rfl | rfl | rfl
    · exact checkTargets1_any b t lo hi st ra w1 (keep hb d0) (keep hb d1) (keep hb d2) (keep hb d3) (keep hb d4)
    · exact require1_any c2 e2 86 _ 8 _ w1 (keep hb a1) (keep hb b1) (lt_of (keep hb b1)) (enters_of Tryz.func86 (by kernel_rfl) rfl) (grows_of (checkTargets2_any s A n c w1 hn (keep hb s0)))
    · have hd : driveErr t lo hi st ra = 0 := hz 0 (by omega)
      have h1 : (if decide ((n : Int) ≤ 40) then (0 : Int) else 8) = 0 := hz 1 (by omega)
      have hn40 : n ≤ 40 := by
        by_cases hh : (n : Int) ≤ 40
        · omega
        · simp [hh] at h1
      obtain ⟨ht, _⟩ := drive_ok hd
      exact require1_any c3 e3 87 _ 2 _ w1 (keep hb a2) (keep hb b2) (lt_of (keep hb b2)) (enters_of Tryz.func87 (by kernel_rfl) rfl) (grows_of (checkTargets3_any s b A n c xs t w1 (by omega) (keep hb s0) (hA.below hb) (keep hb d0) ht.1 ht.2))
set_option maxRecDepth 100000 in
set_option maxHeartbeats 800000 in
theorem checkTargets_any (t lo hi st ra : Int) (A : Option Addr) (n c : Nat) (xs : Nat → Int) (w : World) (hn : n ≤ 9223372036854775807) (hA : IA w A n xs) :
    Calls Tryz.prog 42 #[.agg #[.int .i64 t, .int .i64 lo, .int .i64 hi, .int .i64 st, .int .i64 ra], .slice A n c] w fun e w' => e = .returned (.int .i64 (ptErr t lo hi st ra n xs)) ∧ Below w.heap.size w w' := by
  have HA := Lib.hid hA
  clear hA
  go_enter Tryz.func42, Tryz.ntmps42
  go_wp2_with (first | (go_at_call 46; refine (require_any _ _ _ _).mono ?_; rintro e w1 ⟨rfl, rfl⟩) | (go_at_call 29; (with_reducible refine Calls.mono (checkT_any _ (w.heap.size + 1 + 1 + 1 + 1 + 1 + 1) w.heap.size (w.heap.size + 1) (w.heap.size + 1 + 1 + 1) (w.heap.size + 1 + 1) (w.heap.size + 1 + 1 + 1 + 1 + 1) (w.heap.size + 1 + 1 + 1 + 1) t lo hi st ra A n c xs hn ?_ ?_) ?_); (focus (exact HA.out.below (by (repeat (first | with_reducible exact Below.refl _ _ | with_reducible assumption | with_reducible refine Below.alloc ?_ (by first | (simp; done) | (simp; omega) | omega) _ | with_reducible refine Below.setCell ?_ (by first | (simp; done) | (simp; omega) | omega) _ | with_reducible refine Below.drew ?_ | with_reducible refine below_drewN ?_ _))))); (focus (refine ⟨⟨?_, ?_, ?_⟩, ⟨?_, ?_⟩, ⟨?_, ?_⟩, ?_, ⟨?_, ?_, ?_, ?_, ?_⟩⟩ <;> (simp [go_sem]; done))); rintro e w1 ⟨rfl, hb1⟩))
  go_ret
  exact ⟨rfl, (by (repeat (first | with_reducible exact Below.refl _ _ | with_reducible assumption | with_reducible refine Below.alloc ?_ (by first | (simp; done) | (simp; omega) | omega) _ | with_reducible refine Below.setCell ?_ (by first | (simp; done) | (simp; omega) | omega) _ | with_reducible refine Below.drew ?_ | with_reducible refine below_drewN ?_ _)) : Below w.heap.size w _).trans (hb1.mono (by first | (simp; done) | (simp; omega) | omega))⟩
end Go.Proofs.YtjncjoaohonmjaaGreat
namespace Go.Proofs.YtjncjoaohonmjaaGreat
open Go.RowKit Go.Shelf Go.Sort
attribute [local go_sem] idx3_0 idx3_1 idx3_2 old1 fro1 old2 fro2 old3 fro3 old4 fro4 old5 fro5 old6 fro6 old7 fro7 old8 fro8 old9 fro9 old10 fro10 old11 fro11 old12 fro12
def tv (ra fr a r : Int) : Int := if ra < siz (a - fr) ∨ r = -1 then -1 else siz (a - fr) + r
set_option maxRecDepth 100000 in
set_option maxHeartbeats 800000 in
theorem travelVia_any (t lo hi st ra fr a r : Int) (w : World) (h1 : -100000 ≤ a - fr) (h2 : a - fr ≤ 100000) (h3 : -1 ≤ r) (h4 : r ≤ 100000000) :
    Calls Tryz.prog 94 #[.agg #[.int .i64 t, .int .i64 lo, .int .i64 hi, .int .i64 st, .int .i64 ra], .int .i64 fr, .agg #[.int .i64 a, .int .i64 r]] w fun e w' => e = .returned (.int .i64 (tv ra fr a r)) ∧ ∃ o1 o2, w' = (w.alloc o1).alloc o2 := by
  have s1 := siz_nn (a - fr)
  have s2 := siz_le h1 h2
  by_cases c1 : ra < siz (a - fr)
  · have e : tv ra fr a r = -1 := by unfold tv; rw [if_pos (.inl c1)]
    rw [e]
    go_enter Tryz.func94, Tryz.ntmps94
    go_wp2_with (go_at_call 51; refine (size_any _ (by omega) (by omega) _).mono ?_; rintro e w' ⟨rfl, rfl⟩)
    go_ret
    exact ⟨rfl, _, _, rfl⟩
  · by_cases c2 : r = -1
    · have e : tv ra fr a r = -1 := by unfold tv; rw [if_pos (.inr c2)]
      rw [e]
      have hq : (r == -1) = true := by simp [c2]
      clear c2
      go_enter Tryz.func94, Tryz.ntmps94
      go_wp2_with (go_at_call 51; refine (size_any _ (by omega) (by omega) _).mono ?_; rintro e w' ⟨rfl, rfl⟩)
      go_ret
      exact ⟨rfl, _, _, rfl⟩
    · have e : tv ra fr a r = siz (a - fr) + r := by unfold tv; rw [if_neg (by omega)]
      rw [e]
      have hq : (r == -1) = false := by simp [c2]
      clear c2
      go_enter Tryz.func94, Tryz.ntmps94
      go_wp2_with (go_at_call 51; refine (size_any _ (by omega) (by omega) _).mono ?_; rintro e w' ⟨rfl, rfl⟩)
      go_ret
      exact ⟨rfl, _, _, rfl⟩
def mrStep (best n : Int) : Int := if n ≠ -1 ∧ (best = -1 ∨ n < best) then n else best
def mr (ra fr : Int) (at_ re : Nat → Int) : Nat → Int
  | 0 => -1
  | k + 1 => mrStep (mr ra fr at_ re k) (tv ra fr (at_ k) (re k))
theorem mrStep_t {b n : Int} (h1 : n ≠ -1) (h2 : b = -1 ∨ n < b) : mrStep b n = n := by unfold mrStep; rw [if_pos ⟨h1, h2⟩]
theorem mrStep_f {b n : Int} (h : ¬ (n ≠ -1 ∧ (b = -1 ∨ n < b))) : mrStep b n = b := by unfold mrStep; rw [if_neg h]
set_option maxRecDepth 100000 in
set_option maxHeartbeats 2000000 in
theorem minimumRest_m (t lo hi st ra fr : Int) (b off n c : Nat) (at_ re : Nat → Int) (w : World) (hn : n ≤ 1000000) (hb : b < w.heap.size)
    (hc : ∀ i, i < n → w.cell? ⟨b, off + i * 2, none⟩ = some (.int .i64 (at_ i)) ∧ w.cell? ⟨b, off + i * 2 + 1, none⟩ = some (.int .i64 (re i)))
    (hr : ∀ i, i < n → (-100000 ≤ at_ i - fr ∧ at_ i - fr ≤ 100000) ∧ (-1 ≤ re i ∧ re i ≤ 100000000)) :
    Calls Tryz.prog 91 #[.agg #[.int .i64 t, .int .i64 lo, .int .i64 hi, .int .i64 st, .int .i64 ra], .int .i64 fr, .slice (some ⟨b, off, none⟩) n c] w fun e w' => e = .returned (.int .i64 (mr ra fr at_ re n)) ∧ Below w.heap.size w w' := by
  have HC := Lib.hid hc
  have HR := Lib.hid hr
  clear hc hr
  go_enter Tryz.func91, Tryz.ntmps91
  go_wp2_with fail
  go_loopw [7, 13] (fun s7 i wr => ∃ k : Nat, k ≤ n ∧ i = .int .i64 k ∧ s7 = .int .i64 (mr ra fr at_ re k) ∧ Below w.heap.size w wr ∧ wr.cell? ⟨w.heap.size, 0, none⟩ = some (.int .i64 t) ∧ wr.cell? ⟨w.heap.size, 1, none⟩ = some (.int .i64 lo) ∧ wr.cell? ⟨w.heap.size, 2, none⟩ = some (.int .i64 hi) ∧ wr.cell? ⟨w.heap.size, 3, none⟩ = some (.int .i64 st) ∧ wr.cell? ⟨w.heap.size, 4, none⟩ = some (.int .i64 ra)) (fun _ i _ => n - (intOf i).toNat)
  case atStart => exact ⟨0, Nat.zero_le _, rfl, rfl, by (repeat (first | with_reducible exact Below.refl _ _ | with_reducible assumption | with_reducible refine Below.alloc ?_ (by first | (simp; done) | (simp; omega) | omega) _ | with_reducible refine Below.setCell ?_ (by first | (simp; done) | (simp; omega) | omega) _ | with_reducible refine Below.drew ?_ | with_reducible refine below_drewN ?_ _)), by simp [go_sem], by simp [go_sem], by simp [go_sem], by simp [go_sem], by simp [go_sem]⟩
  case round =>
    obtain ⟨k, hk, rfl, rfl, hbel, d0, d1, d2, d3, d4⟩ := hrel
    by_cases hlt : k < n
    · obtain ⟨e1, e2⟩ := HC.out k hlt
      rw [← hbel.cell (p := ⟨b, off + k * 2, none⟩) hb] at e1
      rw [← hbel.cell (p := ⟨b, off + k * 2 + 1, none⟩) hb] at e2
      obtain ⟨⟨q1, q2⟩, ⟨q3, q4⟩⟩ := HR.out k hlt
      have hws := hbel.size
      have HM : Hid (mr ra fr at_ re (k + 1) = mrStep (mr ra fr at_ re k) (tv ra fr (at_ k) (re k))) := rfl
      have HT := fun W => Lib.hid (travelVia_any t lo hi st ra fr (at_ k) (re k) W q1 q2 q3 q4)
      generalize tv ra fr (at_ k) (re k) = v at *
      generalize mr ra fr at_ re k = bk at *
      generalize hM1 : mr ra fr at_ re (k + 1) = bk1 at *
      have HM1 := Lib.hid hM1
      clear hM1
      clear q1 q2 q3 q4
      by_cases hv : v = -1
      · have g1 : (v != -1) = false := by simp [hv]
        have HE : Hid (bk1 = bk) := by rw [show bk1 = _ from HM.out]; exact mrStep_f (by simp [hv])
        clear hv HM
        go_wp2_with (go_at_call 94; (with_reducible refine Calls.mono (HT _).out ?_); rintro e w1 ⟨rfl, o1, o2, rfl⟩)
        go_roundw
        case rel => exact ⟨k + 1, by omega, by go_num, by rw [HM1.out, HE.out], by (repeat (first | with_reducible exact Below.refl _ _ | with_reducible assumption | with_reducible refine Below.alloc ?_ (by first | (simp; done) | (simp; omega) | omega) _ | with_reducible refine Below.setCell ?_ (by first | (simp; done) | (simp; omega) | omega) _ | with_reducible refine Below.drew ?_ | with_reducible refine below_drewN ?_ _)), by simp [go_sem, *], by simp [go_sem, *], by simp [go_sem, *], by simp [go_sem, *], by simp [go_sem, *]⟩
        case measure => simp [intOf]; omega
      · have g1 : (v != -1) = true := by simp [hv]
        by_cases hb1 : bk = -1
        · have g2 : (bk == -1) = true := by simp [hb1]
          have HE : Hid (bk1 = v) := by rw [show bk1 = _ from HM.out]; exact mrStep_t hv (.inl hb1)
          clear hv hb1 HM
          go_wp2_with (go_at_call 94; (with_reducible refine Calls.mono (HT _).out ?_); rintro e w1 ⟨rfl, o1, o2, rfl⟩)
          go_roundw
          case rel => exact ⟨k + 1, by omega, by go_num, by rw [HM1.out, HE.out], by (repeat (first | with_reducible exact Below.refl _ _ | with_reducible assumption | with_reducible refine Below.alloc ?_ (by first | (simp; done) | (simp; omega) | omega) _ | with_reducible refine Below.setCell ?_ (by first | (simp; done) | (simp; omega) | omega) _ | with_reducible refine Below.drew ?_ | with_reducible refine below_drewN ?_ _)), by simp [go_sem, *], by simp [go_sem, *], by simp [go_sem, *], by simp [go_sem, *], by simp [go_sem, *]⟩
          case measure => simp [intOf]; omega
        · have g2 : (bk == -1) = false := by simp [hb1]
          by_cases hl : v < bk
          · have HE : Hid (bk1 = v) := by rw [show bk1 = _ from HM.out]; exact mrStep_t hv (.inr hl)
            clear hv hb1 HM
            go_wp2_with (go_at_call 94; (with_reducible refine Calls.mono (HT _).out ?_); rintro e w1 ⟨rfl, o1, o2, rfl⟩)
            go_roundw
            case rel => exact ⟨k + 1, by omega, by go_num, by rw [HM1.out, HE.out], by (repeat (first | with_reducible exact Below.refl _ _ | with_reducible assumption | with_reducible refine Below.alloc ?_ (by first | (simp; done) | (simp; omega) | omega) _ | with_reducible refine Below.setCell ?_ (by first | (simp; done) | (simp; omega) | omega) _ | with_reducible refine Below.drew ?_ | with_reducible refine below_drewN ?_ _)), by simp [go_sem, *], by simp [go_sem, *], by simp [go_sem, *], by simp [go_sem, *], by simp [go_sem, *]⟩
            case measure => simp [intOf]; omega
          · have HE : Hid (bk1 = bk) := by rw [show bk1 = _ from HM.out]; exact mrStep_f (by intro h; rcases h.2 with h2 | h2 <;> omega)
            clear hv hb1 HM
            go_wp2_with (go_at_call 94; (with_reducible refine Calls.mono (HT _).out ?_); rintro e w1 ⟨rfl, o1, o2, rfl⟩)
            go_roundw
            case rel => exact ⟨k + 1, by omega, by go_num, by rw [HM1.out, HE.out], by (repeat (first | with_reducible exact Below.refl _ _ | with_reducible assumption | with_reducible refine Below.alloc ?_ (by first | (simp; done) | (simp; omega) | omega) _ | with_reducible refine Below.setCell ?_ (by first | (simp; done) | (simp; omega) | omega) _ | with_reducible refine Below.drew ?_ | with_reducible refine below_drewN ?_ _)), by simp [go_sem, *], by simp [go_sem, *], by simp [go_sem, *], by simp [go_sem, *], by simp [go_sem, *]⟩
            case measure => simp [intOf]; omega
    · obtain rfl : k = n := by omega
      go_wp2
      go_ret
      exact ⟨rfl, hbel⟩
end Go.Proofs.YtjncjoaohonmjaaGreat
namespace Go.Proofs.YtjncjoaohonmjaaGreat
open Go.RowKit Go.Shelf Go.Sort
attribute [local go_sem] idx3_0 idx3_1 idx3_2 old1 fro1 old2 fro2 old3 fro3 old4 fro4 old5 fro5 old6 fro6 old7 fro7 old8 fro8 old9 fro9 old10 fro10 old11 fro11 old12 fro12
theorem next_on (t x : Int) (ht : 1 ≤ t) : x ≤ t * (-(-x / t)) ∧ t * (-(-x / t)) < x + t := by
  have h1 := Int.mul_ediv_add_emod (-x) t
  have h2 := Int.emod_nonneg (-x) (show t ≠ 0 by omega)
  have h3 := Int.emod_lt_of_pos (-x) (show 0 < t by omega)
  rw [Int.mul_neg]
  omega
def stopL (a t : Int) (k : Nat) : List Value := (List.range k).flatMap fun (j : Nat) => [.int .i64 (a + t * j), .int .i64 0]
theorem stopL_s (a t : Int) (k : Nat) : stopL a t (k + 1) = stopL a t k ++ [.int .i64 (a + t * k), .int .i64 0] := by simp [stopL, List.range_succ, List.flatMap_append]
theorem infoStop : (Tryz.prog.info? 131).map (fun i => (i.zero, i.size, i.bytes)) = some (some (.agg #[.int .i64 0, .int .i64 0]), 2, 16) := by kernel_rfl
theorem undStops : Tryz.prog.underlying 127 = some (.slice 131) := by kernel_rfl
theorem news2 (w : World) (x y : Value) (t : TypeId) : ∀ j u, [x, y][j]? = some u → (w.alloc (.cells #[x, y] t)).cell? ((⟨w.heap.size, 0, none⟩ : Addr).add j) = some u := by
  intro j u hj
  match j, hj with
  | 0, hj => simp at hj; subst hj; simp [Addr.add]
  | 1, hj => simp at hj; subst hj; simp [Addr.add]
  | j + 2, hj => simp at hj
theorem below_app {a wr w1 : World} {o : Obj} {row : Option Nat} (h : Below a.heap.size a wr) (hs : a.heap.size + 1 ≤ wr.heap.size) (hr : ∀ k, row = some k → a.heap.size + 1 ≤ k) (hg : (wr.alloc o).grownBy w1 row) : Below a.heap.size a w1 :=
  (h.alloc (by omega) o).grown hg (by simp; omega) (fun k hk => by have := hr k hk; omega)
theorem cell_app {a wr w1 : World} {o : Obj} {row : Option Nat} {i : Nat} {v : Value} (hs : a.heap.size + 1 ≤ wr.heap.size) (d : wr.cell? ⟨a.heap.size, i, none⟩ = some v) (hr : ∀ k, row = some k → a.heap.size + 1 ≤ k) (hg : (wr.alloc o).grownBy w1 row) : w1.cell? ⟨a.heap.size, i, none⟩ = some v :=
  (World.cell?_of_block (hg.block a.heap.size (by simp; omega) (fun e => by have := hr _ e.symm; omega))).trans ((((Below.refl _ _).alloc (Nat.le_refl _) o).cell (p := ⟨a.heap.size, i, none⟩) (by show a.heap.size < wr.heap.size; omega)).trans d)
def firstAt (t M tg : Int) : Int := tg + t * (-(-(M - tg) / t))
set_option maxRecDepth 100000 in
set_option maxHeartbeats 2000000 in
theorem stopsAfter_o (t lo hi st ra tg f0 fl M H : Int) (b off n c : Nat) (w : World) (h0 : 0 < n) (hn : n ≤ 1000000) (hz : ((n : Int) == 0) = false) (c0 : w.cell? ⟨b, off, none⟩ = some (.int .i64 f0)) (c1 : w.cell? ⟨b, off + (n - 1) * 2, none⟩ = some (.int .i64 fl))
    (hM : max lo (f0 - t) = M) (hH : min hi (fl + t) = H)
    (t1 : 1 ≤ t) (t2 : t ≤ 3600) (l1 : -20000 ≤ lo) (l2 : lo ≤ 20000) (h1 : -20000 ≤ hi) (h2 : hi ≤ 20000) (f1 : -20000 ≤ f0) (f2 : f0 ≤ 20000) (f3 : -20000 ≤ fl) (f4 : fl ≤ 20000) (g1 : 0 ≤ tg) (g2 : tg ≤ 3600) :
    Calls Tryz.prog 114 #[.agg #[.int .i64 t, .int .i64 lo, .int .i64 hi, .int .i64 st, .int .i64 ra], .slice (some ⟨b, off, none⟩) n c, .int .i64 tg] w fun e w' => ∃ v k, e = .returned v ∧ w'.ownsRow (w.heap.size + 1) 131 2 v k (stopL (firstAt t M tg) t k) ∧ k ≤ 50000 ∧ (∀ j : Nat, j < k → firstAt t M tg + t * j ≤ H) ∧ H < firstAt t M tg + t * k ∧ Below w.heap.size w w' := by
  have hi1 : (0 : Int) ≤ (n : Int) - 1 := by omega
  have hi2 : (n : Int) - 1 < n := by omega
  have hi3 : ((n : Int) - 1).toNat = n - 1 := by omega
  have s0 : IntKind.i64.wrap ((n : Int) - 1) = (n : Int) - 1 := IntWalk.i64_in _ (by omega)
  have s1 : IntKind.i64.wrap (f0 - t) = f0 - t := IntWalk.i64_in _ (by omega)
  have s2 : IntKind.i64.wrap (fl + t) = fl + t := IntWalk.i64_in _ (by omega)
  have m1 : -24000 ≤ M ∧ M ≤ 20000 := by omega
  have m2 : H ≤ 20000 := by omega
  have s3 : IntKind.i64.wrap (M - tg) = M - tg := IntWalk.i64_in _ (by omega)
  obtain ⟨n1, n2⟩ := next_on t (M - tg) t1
  have hfa : firstAt t M tg = tg + t * (-(-(M - tg) / t)) := rfl
  have HCE := fun W => (ceiling_any (M - tg) t (by omega) (by omega) (by omega) (by omega) W).mono (fun _ _ h => And.intro h.1 h.2.symm)
  generalize hC : -(-(M - tg) / t) = C at *
  generalize hA : t * C = A at *
  have s4 : IntKind.i64.wrap (t * C) = A := by rw [hA]; exact IntWalk.i64_in _ (by omega)
  have s5 : IntKind.i64.wrap (tg + A) = firstAt t M tg := (IntWalk.i64_in _ (by omega)).trans hfa.symm
  generalize firstAt t M tg = F at *
  have HFA := Lib.hid hfa
  clear hfa
  obtain ⟨i0, hi0, hz0, hz1, hz2⟩ := info_parts infoStop
  go_enter Tryz.func114, Tryz.ntmps114
  go_wp2_with fail
  go_quiet (fail)
  go_wp2_with fail
  go_quiet (fail)
  go_wp2_with fail
  go_quiet ((go_at_call 35; refine (HCE _).mono (fun _ _ h => ⟨h.1, _, h.2⟩)))
  go_wp2_with fail
  go_loopw [9, 10] (fun s9 s10 wr => ∃ k : Nat, s10 = .int .i64 (F + t * k) ∧ wr.ownsRow (w.heap.size + 1) 131 2 s9 k (stopL F t k) ∧ (∀ j : Nat, j < k → F + t * j ≤ H) ∧ (k : Int) ≤ 44001 ∧ Below w.heap.size w wr ∧ wr.cell? ⟨w.heap.size, 0, none⟩ = some (.int .i64 t) ∧ w.heap.size + 1 ≤ wr.heap.size) (fun _ i _ => (20001 - intOf i).toNat)
  case atStart => exact ⟨0, by simp, World.ownsRow_nil _ _ _ _, fun j hj => absurd hj (Nat.not_lt_zero j), by omega, by (repeat (first | with_reducible exact Below.refl _ _ | with_reducible assumption | with_reducible refine Below.alloc ?_ (by first | (simp; done) | (simp; omega) | omega) _ | with_reducible refine Below.setCell ?_ (by first | (simp; done) | (simp; omega) | omega) _ | with_reducible refine Below.drew ?_ | with_reducible refine below_drewN ?_ _)), by simp [go_sem], by simp⟩
  case round =>
    obtain ⟨k, rfl, hown, hall, hk, hbel, d0, hws⟩ := hrel
    have hfa := HFA.out
    have hf1 : -24000 ≤ F := by omega
    have hf2 : F ≤ 40000 := by omega
    clear hfa
    have hkt : (k : Int) ≤ t * k := by have := Int.mul_le_mul_of_nonneg_right t1 (Int.natCast_nonneg k); omega
    have hst : F + t * ((k + 1 : Nat) : Int) = F + t * k + t := by rw [Int.natCast_succ, Int.mul_add, Int.mul_one, Int.add_assoc]
    by_cases hlt : F + t * k ≤ H
    · have HALL : Hid (∀ j : Nat, j < k + 1 → F + t * j ≤ H) := (by intro j hj; rcases Nat.lt_succ_iff_lt_or_eq.1 hj with h | h; exact hall j h; rw [h]; exact hlt)
      have s6 : IntKind.i64.wrap (F + t * k + t) = F + t * k + t := IntWalk.i64_in _ (by omega)
      go_wp2_with (first
        | (at_builtin; refine wpList_append_own_at _ rfl _ _ 127 rfl (w.heap.size + 1) 131 i0 _ 2 16 undStops hi0 hz0 hz1 hz2 rfl (by decide) u9 _ _ rfl (hown.alloc _) ⟨wr.heap.size, 0, none⟩ 1 1 [.int .i64 (F + t * k), .int .i64 0] rfl rfl (news2 _ _ _ _) (by simp [Value.oneCell']) (by unfold maxLen; omega) (by omega) (by simp; omega) ?_; intro v' w1 hown' hgrow hnil hloc; rw [← stopL_s] at hown'; have hownN := Lib.hid hown'; have hbelN := below_app hbel hws (fun k h => (hown.lt k h).1) hgrow; have d1 := cell_app hws d0 (fun k h => (hown.lt k h).1) hgrow; have hwsN : w.heap.size + 1 ≤ w1.heap.size := (by have := hgrow.size; simp at this; omega); clear hown' hgrow hnil hloc)
        | fail)
      go_roundw
      case rel => exact ⟨k + 1, by rw [hst], hownN.out, HALL.out, by omega, hbelN, d1, hwsN⟩
      case measure => simp [intOf]; omega
    · go_wp2_with fail
      go_ret
      exact ⟨_, rfl, k, hown, by omega, hall, by omega, hbel⟩
end Go.Proofs.YtjncjoaohonmjaaGreat
namespace Go.Proofs.YtjncjoaohonmjaaGreat
open Go.RowKit Go.Shelf Go.Sort
attribute [local go_sem] idx3_0 idx3_1 idx3_2 old1 fro1 old2 fro2 old3 fro3 old4 fro4 old5 fro5 old6 fro6 old7 fro7 old8 fro8 old9 fro9 old10 fro10 old11 fro11 old12 fro12
set_option maxRecDepth 100000 in
set_option maxHeartbeats 800000 in
theorem indexFunc_stop (g : Nat) (cb : Array Value) (n c : Nat) (b off : Nat) (ats res : Nat → Int) (p : Nat → Bool) (w : World) (eg : ∀ args w, (callFunc g args).run Tryz.prog w = .ok (.enter g args) w) (hn : n ≤ 1000000) (hb : b < w.heap.size)
    (hc : ∀ i, i < n → w.cell? ⟨b, off + i * 2, none⟩ = some (.int .i64 (ats i)) ∧ w.cell? ⟨b, off + i * 2 + 1, none⟩ = some (.int .i64 (res i)))
    (hf : ∀ (i : Nat) (w1 : World), i < n → Below w.heap.size w w1 → Calls Tryz.prog g (#[.agg #[.int .i64 (ats i), .int .i64 (res i)]] ++ cb) w1 fun e w' => e = .returned (.bool (p i)) ∧ Below w1.heap.size w1 w') :
    Calls Tryz.prog 92 #[.slice (some ⟨b, off, none⟩) n c, .func (.func g) #[] cb] w fun e w' => e = .returned (.int .i64 (fidx p n)) ∧ Below w.heap.size w w' := by
  have HF := Lib.hid hf
  have HC := Lib.hid hc
  clear hf hc
  go_enter Tryz.func92, Tryz.ntmps92
  go_wp2
  go_loopw [8] (fun i wr => ∃ k : Nat, k ≤ n ∧ i = .int .i64 k ∧ Hid (∀ j, j < k → p j = false) ∧ Below w.heap.size w wr) (fun i _ => n - (intOf i).toNat)
  case atStart => exact ⟨0, Nat.zero_le _, rfl, fun j hj => absurd hj (Nat.not_lt_zero _), Below.refl _ _⟩
  case round =>
    obtain ⟨k, hk, rfl, H, hbel⟩ := hrel
    by_cases hlt : k < n
    · obtain ⟨e1, e2⟩ := HC.out k hlt
      rw [← hbel.cell (p := ⟨b, off + k * 2, none⟩) hb] at e1
      rw [← hbel.cell (p := ⟨b, off + k * 2 + 1, none⟩) hb] at e2
      have hcon := HF.out k wr hlt hbel
      have hws := hbel.size
      cases hp : p k <;> rw [hp] at hcon <;> have HP := Lib.hid hp <;> clear hp
      · go_wp2_with (go_at_fn g; refine hcon.mono ?_; rintro e w1 ⟨rfl, hb1⟩)
        go_round
        case rel => exact ⟨k + 1, by omega, by go_num, fun j hj => (by
          rcases Nat.lt_or_eq_of_le (Nat.le_of_lt_succ hj) with h | h
          · exact H.out j h
          · rw [h]; exact HP.out), hbel.trans (hb1.mono hws)⟩
        case measure => simp [intOf]; omega
      · go_wp2_with (go_at_fn g; refine hcon.mono ?_; rintro e w1 ⟨rfl, hb1⟩)
        go_ret
        exact ⟨ret_int (fidx_hit hlt HP.out H.out).symm, hbel.trans (hb1.mono hws)⟩
    · obtain rfl : k = n := by omega
      go_wp2
      go_ret
      exact ⟨ret_int (fidx_miss H.out).symm, hbel⟩
end Go.Proofs.YtjncjoaohonmjaaGreat
