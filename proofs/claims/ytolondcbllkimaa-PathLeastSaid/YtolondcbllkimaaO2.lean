/- Helpers: targets of a drive. -/
import Derived.Test.YtolondcbllkimaaO
namespace Go.Proofs.Ytolondcbllkimaa
open Go.RowKit Go.Shelf Go.Sort
attribute [local go_sem] idx3_0 idx3_1 idx3_2 old1 fro1 old2 fro2 old3 fro3 old4 fro4 old5 fro5 old6 fro6 old7 fro7 old8 fro8 old9 fro9 old10 fro10 old11 fro11 old12 fro12
set_option maxRecDepth 100000 in
set_option maxHeartbeats 400000 in
theorem indexFunc_int0 (g : Nat) (cb : Array Value) (c : Nat) (A : Option Addr) (w : World) :
    Calls Try.prog 124 #[.slice A 0 c, .func (.func g) #[] cb] w fun e w' => e = .returned (.int .i64 (-1)) ∧ w = w' := by
  go_enter Try.func124, Try.ntmps124
  go_wp2_with fail
  refine wp_loop_rounds 1 ?_
  rw [rounds_succ]
  go_wp2
  go_ret
  exact ⟨rfl, rfl⟩
set_option maxRecDepth 100000 in
set_option maxHeartbeats 400000 in
theorem containsFunc_int0 (g : Nat) (cb : Array Value) (c : Nat) (A : Option Addr) (w : World) :
    Calls Try.prog 103 #[.slice A 0 c, .func (.func g) #[] cb] w fun e w' => e = .returned (.bool false) ∧ w = w' := by
  go_enter Try.func103, Try.ntmps103
  go_wp2_with (go_at_call 124; refine (indexFunc_int0 _ _ _ _ _).mono ?_; rintro e w1 ⟨rfl, rfl⟩)
  go_ret
  exact ⟨rfl, rfl⟩
/-- Whole numbers in memory. -/
def IA (w : World) (A : Option Addr) (n : Nat) (xs : Nat → Int) : Prop := 0 < n → ∃ b off, A = some ⟨b, off, none⟩ ∧ ∀ i, i < n → w.cell? ⟨b, off + i, none⟩ = some (.int .i64 (xs i))
theorem IA.below {w w1 : World} {A : Option Addr} {n : Nat} {xs : Nat → Int} (h : IA w A n xs) (hb : Below w.heap.size w w1) : IA w1 A n xs := fun h0 => by
  obtain ⟨b, off, e, hc⟩ := h h0
  exact ⟨b, off, e, fun i hi => keep hb (hc i hi)⟩
set_option maxRecDepth 100000 in
set_option maxHeartbeats 800000 in
theorem target1_any (x : Int) (b : Nat) (t : Int) (w : World) (d0 : w.cell? ⟨b, 0, none⟩ = some (.int .i64 t)) (h1 : 1 ≤ t) (h2 : t ≤ 3600) :
    Calls Try.prog 104 #[.int .i64 x, .pointer (some ⟨b, 0, none⟩)] w fun e w' => e = .returned (.bool (!wi x 0 (t - 1))) ∧ w = w' := by
  go_enter Try.func104, Try.ntmps104
  go_wp2_with (go_at_call 45; refine (within_any _ _ _ _).mono ?_; rintro e w' ⟨rfl, rfl⟩)
  go_ret
  exact ⟨rfl, rfl⟩
theorem targets_any (A : Option Addr) (n c : Nat) (xs : Nat → Int) (b : Nat) (t : Int) (w : World) (hn : n ≤ 1000000) (hA : IA w A n xs) (d0 : w.cell? ⟨b, 0, none⟩ = some (.int .i64 t)) (h1 : 1 ≤ t) (h2 : t ≤ 3600) :
    Calls Try.prog 103 #[.slice A n c, .func (.func 104) #[] #[.pointer (some ⟨b, 0, none⟩)]] w fun e w' => e = .returned (.bool ((List.range n).any fun i => !wi (xs i) 0 (t - 1))) ∧ w = w' := by
  by_cases h0 : n = 0
  · subst h0
    exact containsFunc_int0 _ _ c A w
  · obtain ⟨bb, off, rfl, hc⟩ := hA (by omega)
    exact containsFunc_int _ _ n c bb off xs (fun i => !wi (xs i) 0 (t - 1)) w (enters_of Try.func104 (by kernel_rfl) rfl) hn hc (fun i hi => target1_any (xs i) b t w d0 h1 h2)
set_option maxRecDepth 100000 in
set_option maxHeartbeats 800000 in
theorem checkTargets1_any (b : Nat) (t lo hi st ra : Int) (w : World) (d0 : w.cell? ⟨b, 0, none⟩ = some (.int .i64 t)) (d1 : w.cell? ⟨b, 1, none⟩ = some (.int .i64 lo)) (d2 : w.cell? ⟨b, 2, none⟩ = some (.int .i64 hi)) (d3 : w.cell? ⟨b, 3, none⟩ = some (.int .i64 st)) (d4 : w.cell? ⟨b, 4, none⟩ = some (.int .i64 ra)) :
    Calls Try.prog 100 #[.pointer (some ⟨b, 0, none⟩)] w fun e w' => e = .returned (.int .i64 (driveErr t lo hi st ra)) ∧ Below w.heap.size w w' := by
  go_enter Try.func100, Try.ntmps100
  go_wp2_with (go_at_call 32; (with_reducible refine (checkDrive_any t lo hi st ra _).mono ?_); rintro e w1 ⟨rfl, hb1⟩)
  go_ret
  exact ⟨rfl, hb1⟩
set_option maxRecDepth 100000 in
set_option maxHeartbeats 800000 in
theorem checkTargets2_any (b : Nat) (A : Option Addr) (n c : Nat) (w : World) (_ : n ≤ 9223372036854775807) (s0 : w.cell? ⟨b, 0, none⟩ = some (.slice A n c)) :
    Calls Try.prog 101 #[.pointer (some ⟨b, 0, none⟩)] w fun e w' => e = .returned (.bool (decide ((n : Int) ≤ 40))) ∧ w = w' := by
  go_enter Try.func101, Try.ntmps101
  go_wp2
  go_ret
  exact ⟨rfl, rfl⟩
set_option maxRecDepth 100000 in
set_option maxHeartbeats 800000 in
theorem checkTargets3_any (bs bd : Nat) (A : Option Addr) (n c : Nat) (xs : Nat → Int) (t : Int) (w : World) (hn : n ≤ 1000000) (s0 : w.cell? ⟨bs, 0, none⟩ = some (.slice A n c)) (hA : IA w A n xs) (d0 : w.cell? ⟨bd, 0, none⟩ = some (.int .i64 t)) (h1 : 1 ≤ t) (h2 : t ≤ 3600) :
    Calls Try.prog 102 #[.pointer (some ⟨bs, 0, none⟩), .pointer (some ⟨bd, 0, none⟩)] w fun e w' => e = .returned (.bool (!(List.range n).any fun i => !wi (xs i) 0 (t - 1))) ∧ w = w' := by
  have HC := Lib.hid (targets_any A n c xs bd t w hn hA d0 h1 h2)
  clear hA
  generalize (List.range n).any (fun i => !wi (xs i) 0 (t - 1)) = r at *
  go_enter Try.func102, Try.ntmps102
  go_wp2_with (go_at_call 103; (with_reducible refine Calls.mono HC.out ?_); rintro e w1 ⟨rfl, rfl⟩)
  go_ret
  exact ⟨rfl, rfl⟩
/-- The error of targets of a valid drive. -/
def tgErr (n : Nat) (xs : Nat → Int) (t : Int) : Int := if decide ((n : Int) ≤ 40) then (if !(List.range n).any fun i => !wi (xs i) 0 (t - 1) then 0 else 2) else 8
def ptErr (t lo hi st ra : Int) (n : Nat) (xs : Nat → Int) : Int := if driveErr t lo hi st ra = 0 then tgErr n xs t else driveErr t lo hi st ra
theorem drive_ok {t lo hi st ra : Int} (h : driveErr t lo hi st ra = 0) : (1 ≤ t ∧ t ≤ 3600) ∧ (-20000 ≤ lo ∧ lo ≤ 20000) ∧ (-20000 ≤ hi ∧ hi ≤ 20000) ∧ (0 ≤ ra ∧ ra ≤ 40000) ∧ lo ≤ st ∧ st ≤ hi := by
  unfold driveErr dr1 at h
  cases h1 : wi t 1 3600 <;> cases h2 : wi lo (-20000) 20000 <;> cases h3 : wi hi (-20000) 20000 <;> cases h4 : wi ra 0 40000 <;> cases h5 : decide (lo ≤ hi) <;> cases h6 : wi st lo hi <;> simp [h1, h2, h3, h4, h6] at h
  all_goals first | (simp at h5; omega) | exact ⟨wi_t.1 h1, wi_t.1 h2, wi_t.1 h3, wi_t.1 h4, (wi_t.1 h6).1, (wi_t.1 h6).2⟩
def CKT (W : World) (L b s c2 e2 c3 e3 : Nat) (t lo hi st ra : Int) (A : Option Addr) (n c : Nat) : Prop :=
  (W.cell? ⟨L, 0, none⟩ = some (.func (.func 100) #[] #[.pointer (some ⟨b, 0, none⟩)]) ∧ W.cell? ⟨L, 1, none⟩ = some (.func (.func 105) #[] #[.pointer (some ⟨c2, 0, none⟩), .pointer (some ⟨e2, 0, none⟩)]) ∧ W.cell? ⟨L, 2, none⟩ = some (.func (.func 105) #[] #[.pointer (some ⟨c3, 0, none⟩), .pointer (some ⟨e3, 0, none⟩)])) ∧
  (W.cell? ⟨c2, 0, none⟩ = some (.func (.func 101) #[] #[.pointer (some ⟨s, 0, none⟩)]) ∧ W.cell? ⟨c3, 0, none⟩ = some (.func (.func 102) #[] #[.pointer (some ⟨s, 0, none⟩), .pointer (some ⟨b, 0, none⟩)])) ∧
  (W.cell? ⟨e2, 0, none⟩ = some (.int .i64 8) ∧ W.cell? ⟨e3, 0, none⟩ = some (.int .i64 2)) ∧ W.cell? ⟨s, 0, none⟩ = some (.slice A n c) ∧ (W.cell? ⟨b, 0, none⟩ = some (.int .i64 t) ∧ W.cell? ⟨b, 1, none⟩ = some (.int .i64 lo) ∧ W.cell? ⟨b, 2, none⟩ = some (.int .i64 hi) ∧ W.cell? ⟨b, 3, none⟩ = some (.int .i64 st) ∧ W.cell? ⟨b, 4, none⟩ = some (.int .i64 ra))
theorem checkT_any (W : World) (L b s c2 e2 c3 e3 : Nat) (t lo hi st ra : Int) (A : Option Addr) (n c : Nat) (xs : Nat → Int) (hn : n ≤ 9223372036854775807) (hA : IA W A n xs) (h : CKT W L b s c2 e2 c3 e3 t lo hi st ra A n c) :
    Calls Try.prog 46 #[.slice (some ⟨L, 0, none⟩) 3 3] W fun e w' => e = .returned (.int .i64 (ptErr t lo hi st ra n xs)) ∧ Below W.heap.size W w' := by
  obtain ⟨⟨l0, l1, l2⟩, ⟨a1, a2⟩, ⟨b1, b2⟩, s0, ⟨d0, d1, d2, d3, d4⟩⟩ := h
  have hr : ferr (fun i => if i = 0 then driveErr t lo hi st ra else if i = 1 then (if decide ((n : Int) ≤ 40) then 0 else 8) else (if !(List.range n).any fun i => !wi (xs i) 0 (t - 1) then 0 else 2)) 0 3 = ptErr t lo hi st ra n xs := by
    simp only [ferr, ptErr, tgErr]
    by_cases hd : driveErr t lo hi st ra = 0
    · simp only [hd, if_true]
      cases decide ((n : Int) ≤ 40) <;> cases (List.range n).any (fun i => !wi (xs i) 0 (t - 1)) <;> rfl
    · simp [hd]
  rw [← hr]
  refine firstError_any L 3 (fun i => if i = 0 then 100 else 105) (fun i => if i = 0 then #[.pointer (some ⟨b, 0, none⟩)] else if i = 1 then #[.pointer (some ⟨c2, 0, none⟩), .pointer (some ⟨e2, 0, none⟩)] else #[.pointer (some ⟨c3, 0, none⟩), .pointer (some ⟨e3, 0, none⟩)])
    _ W (by omega) (lt_of l0) ?_ ?_ ?_
  · intro i hj
    rcases (by omega : i = 0 ∨ i = 1 ∨ i = 2) with rfl | rfl | rfl
    · exact l0
    · exact l1
    · exact l2
  · intro i hj
    rcases (by omega : i = 0 ∨ i = 1 ∨ i = 2) with rfl | rfl | rfl
    · exact (enters_of Try.func100 (by kernel_rfl) rfl)
    · exact (enters_of Try.func105 (by kernel_rfl) rfl)
    · exact (enters_of Try.func105 (by kernel_rfl) rfl)
  · intro i w1 hj hz hb
    rcases (by omega : i = 0 ∨ i = 1 ∨ i = 2) with rfl | rfl | rfl
    · exact checkTargets1_any b t lo hi st ra w1 (keep hb d0) (keep hb d1) (keep hb d2) (keep hb d3) (keep hb d4)
    · exact require1_any c2 e2 101 _ 8 _ w1 (keep hb a1) (keep hb b1) (lt_of (keep hb b1)) (enters_of Try.func101 (by kernel_rfl) rfl) (grows_of (checkTargets2_any s A n c w1 hn (keep hb s0)))
    · have hd : driveErr t lo hi st ra = 0 := hz 0 (by omega)
      have h1 : (if decide ((n : Int) ≤ 40) then (0 : Int) else 8) = 0 := hz 1 (by omega)
      have hn40 : n ≤ 40 := by
        by_cases hh : (n : Int) ≤ 40
        · omega
        · simp [hh] at h1
      obtain ⟨ht, _⟩ := drive_ok hd
      exact require1_any c3 e3 102 _ 2 _ w1 (keep hb a2) (keep hb b2) (lt_of (keep hb b2)) (enters_of Try.func102 (by kernel_rfl) rfl) (grows_of (checkTargets3_any s b A n c xs t w1 (by omega) (keep hb s0) (hA.below hb) (keep hb d0) ht.1 ht.2))
set_option maxRecDepth 100000 in
set_option maxHeartbeats 800000 in
theorem checkTargets_any (t lo hi st ra : Int) (A : Option Addr) (n c : Nat) (xs : Nat → Int) (w : World) (hn : n ≤ 9223372036854775807) (hA : IA w A n xs) :
    Calls Try.prog 58 #[.agg #[.int .i64 t, .int .i64 lo, .int .i64 hi, .int .i64 st, .int .i64 ra], .slice A n c] w fun e w' => e = .returned (.int .i64 (ptErr t lo hi st ra n xs)) ∧ Below w.heap.size w w' := by
  have HA := Lib.hid hA
  clear hA
  go_enter Try.func58, Try.ntmps58
  go_wp2_with (first | (go_at_call 59; refine (require_any _ _ _ _).mono ?_; rintro e w1 ⟨rfl, rfl⟩) | (go_at_call 46; (with_reducible refine Calls.mono (checkT_any _ (w.heap.size + 1 + 1 + 1 + 1 + 1 + 1) w.heap.size (w.heap.size + 1) (w.heap.size + 1 + 1 + 1) (w.heap.size + 1 + 1) (w.heap.size + 1 + 1 + 1 + 1 + 1) (w.heap.size + 1 + 1 + 1 + 1) t lo hi st ra A n c xs hn ?_ ?_) ?_); (focus (exact HA.out.below (by (repeat (first | with_reducible exact Below.refl _ _ | with_reducible assumption | with_reducible refine Below.alloc ?_ (by first | (simp; done) | (simp; omega) | omega) _ | with_reducible refine Below.setCell ?_ (by first | (simp; done) | (simp; omega) | omega) _ | with_reducible refine Below.drew ?_ | with_reducible refine below_drewN ?_ _))))); (focus (refine ⟨⟨?_, ?_, ?_⟩, ⟨?_, ?_⟩, ⟨?_, ?_⟩, ?_, ⟨?_, ?_, ?_, ?_, ?_⟩⟩ <;> (simp [go_sem]; done))); rintro e w1 ⟨rfl, hb1⟩))
  go_ret
  exact ⟨rfl, (by (repeat (first | with_reducible exact Below.refl _ _ | with_reducible assumption | with_reducible refine Below.alloc ?_ (by first | (simp; done) | (simp; omega) | omega) _ | with_reducible refine Below.setCell ?_ (by first | (simp; done) | (simp; omega) | omega) _ | with_reducible refine Below.drew ?_ | with_reducible refine below_drewN ?_ _)) : Below w.heap.size w _).trans (hb1.mono (by first | (simp; done) | (simp; omega) | omega))⟩
end Go.Proofs.Ytolondcbllkimaa
