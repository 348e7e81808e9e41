/- Helpers: the minimum rate (MinimumRate). -/
import Derived.Test.YtolondcbllkimaaLA
namespace Go.Proofs.Ytolondcbllkimaa
open Go.RowKit Go.Shelf Go.Sort
attribute [local go_sem] idx3_0 idx3_1 idx3_2 old1 fro1 old2 fro2 old3 fro3 old4 fro4 old5 fro5 old6 fro6 old7 fro7 old8 fro8 old9 fro9 old10 fro10 old11 fro11 old12 fro12
/-- With this rate there is a motion. -/
def okB (t lo hi st : Int) (n : Nat) (xs : Nat → Int) (r : Int) : Bool := (List.range n).all fun i => !(mr r (pPos t lo hi st r n xs i) (aF t lo hi st xs i) (pR t lo hi st r n xs i) (kkF t lo hi st xs i) == -1)
theorem okB_iff {t lo hi st : Int} {n : Nat} {xs : Nat → Int} {r : Int} : okB t lo hi st n xs r = true ↔ ∀ i, i < n → pOk t lo hi st r n xs i := by
  unfold okB
  rw [List.all_eq_true]
  constructor
  · intro h i hi'
    have := h i (List.mem_range.2 hi')
    have h2 : mr r (pPos t lo hi st r n xs i) (aF t lo hi st xs i) (pR t lo hi st r n xs i) (kkF t lo hi st xs i) ≠ -1 := by simpa using this
    exact h2
  · intro h i hi'
    have : mr r (pPos t lo hi st r n xs i) (aF t lo hi st xs i) (pR t lo hi st r n xs i) (kkF t lo hi st xs i) ≠ -1 := h i (List.mem_range.1 hi')
    simpa using this
theorem mot_any (t lo hi st ra : Int) (A : Option Addr) (n c : Nat) (xs : Nat → Int) (w : World) (hA : IA w A n xs) (hd : driveErr t lo hi st ra = 0) (hn : n ≤ 40) (hx : ∀ i, i < n → 0 ≤ xs i ∧ xs i ≤ t - 1) :
    Calls Try.prog 68 #[.agg #[.int .i64 t, .int .i64 lo, .int .i64 hi, .int .i64 st, .int .i64 ra], .slice A n c] w fun e w' => Below w.heap.size w w' ∧
      ∃ A' n' c' x, e = .returned (.tuple #[.slice A' n' c', .int .i64 x]) ∧ (x != -1) = okB t lo hi st n xs ra := by
  obtain ⟨⟨t1, t2⟩, ⟨l1, l2⟩, ⟨h1, h2⟩, ⟨r0, r1⟩, f1, f2⟩ := drive_ok hd
  refine (minimumMotion_o t lo hi st ra A n c xs w (by omega) hA (fun i hi => ⟨(hx i hi).1, by have := (hx i hi).2; omega⟩) t1 t2 l1 l2 h1 h2 f1 f2 r0 r1 _ _ _ rfl rfl rfl (fun i _ => rows_in t1 t2 l1 h2 f1 f2 i)).mono ?_
  rintro e w' ⟨hb, ⟨ho, v, rfl, hv⟩ | ⟨⟨i, hlt, hni⟩, rfl⟩⟩
  · obtain ⟨hv1, _⟩ := own_parts hv
    have hT := (mtrv_in (ra := ra) (R := pR t lo hi st ra n xs) l1 h2 f1 f2 (fun i (_ : i < n) => (rows_in (xs := xs) t1 t2 l1 h2 f1 f2 i).2) n (Nat.le_refl n) ho).1
    refine ⟨hb, sA v, n, sC v, mtrv ra st (kkF t lo hi st xs) (aF t lo hi st xs) (pR t lo hi st ra n xs) n, congrArg (fun q => Ending.returned (.tuple #[q, .int .i64 (mtrv ra st (kkF t lo hi st xs) (aF t lo hi st xs) (pR t lo hi st ra n xs) n)])) hv1, ?_⟩
    rw [okB_iff.2 ho]
    have : mtrv ra st (kkF t lo hi st xs) (aF t lo hi st xs) (pR t lo hi st ra n xs) n ≠ -1 := by omega
    simpa using this
  · refine ⟨hb, none, 0, 0, -1, rfl, ?_⟩
    cases ho : okB t lo hi st n xs ra
    · rfl
    · exact absurd (okB_iff.1 ho i hlt) hni
set_option maxRecDepth 100000 in
set_option maxHeartbeats 2000000 in
theorem minimumRate1_any (t lo hi st ra r : Int) (bd bs : Nat) (A : Option Addr) (n c : Nat) (xs : Nat → Int) (w : World) (hA : IA w A n xs) (hd : driveErr t lo hi st r = 0) (hn : n ≤ 40) (hx : ∀ i, i < n → 0 ≤ xs i ∧ xs i ≤ t - 1)
    (d0 : w.cell? ⟨bd, 0, none⟩ = some (.int .i64 t)) (d1 : w.cell? ⟨bd, 1, none⟩ = some (.int .i64 lo)) (d2 : w.cell? ⟨bd, 2, none⟩ = some (.int .i64 hi)) (d3 : w.cell? ⟨bd, 3, none⟩ = some (.int .i64 st)) (d4 : w.cell? ⟨bd, 4, none⟩ = some (.int .i64 ra)) (s0 : w.cell? ⟨bs, 0, none⟩ = some (.slice A n c)) :
    Calls Try.prog 70 #[.int .i64 r, .pointer (some ⟨bd, 0, none⟩), .pointer (some ⟨bs, 0, none⟩)] w fun e w' => e = .returned (.bool (okB t lo hi st n xs r)) ∧ Below w.heap.size w w' := by
  have HM := fun W hW => Lib.hid (mot_any t lo hi st r A n c xs W hW hd hn hx)
  have HA := Lib.hid hA
  clear hA
  go_enter Try.func70, Try.ntmps70
  go_wp2_with (go_at_call 68; go_loud ((with_reducible refine Calls.mono (HM _ (HA.out.below (by (repeat (first | with_reducible exact Below.refl _ _ | with_reducible assumption | with_reducible refine Below.alloc ?_ (by first | (simp; done) | (simp; omega) | omega) _ | with_reducible refine Below.setCell ?_ (by first | (simp; done) | (simp; omega) | omega) _ | with_reducible refine Below.drew ?_ | with_reducible refine below_drewN ?_ _))))).out ?_); rintro e w1 ⟨hb1, A', n', c', x, rfl, hx1⟩; have B1 := thenB (show Below w.heap.size w _ by (repeat (first | with_reducible exact Below.refl _ _ | with_reducible assumption | with_reducible refine Below.alloc ?_ (by first | (simp; done) | (simp; omega) | omega) _ | with_reducible refine Below.setCell ?_ (by first | (simp; done) | (simp; omega) | omega) _ | with_reducible refine Below.drew ?_ | with_reducible refine below_drewN ?_ _))) hb1; have HX := Lib.hid hx1; clear hb1 hx1))
  go_ret
  exact ⟨ret_bool HX.out, B1⟩
def SomeRate (t lo hi st ra : Int) (n : Nat) (xs : Nat → Int) (w : World) (e : Ending) (w' : World) : Prop :=
  Below w.heap.size w w' ∧ ((ptErr t lo hi st ra n xs ≠ 0 ∧ e = .returned (.tuple #[.int .i64 0, .int .i64 (ptErr t lo hi st ra n xs)])) ∨
    (ptErr t lo hi st ra n xs = 0 ∧ ∃ r, RL (okB t lo hi st n xs) 0 40000 r ∧ ((40000 < r ∧ e = .returned (.tuple #[.int .i64 0, .int .i64 12])) ∨ (r ≤ 40000 ∧ e = .returned (.tuple #[.int .i64 r, .int .i64 0])))))
theorem drive_rate {t lo hi st ra r : Int} (h : driveErr t lo hi st ra = 0) (r0 : 0 ≤ r) (r1 : r ≤ 40000) : driveErr t lo hi st r = 0 := by
  obtain ⟨t1, l1, h1, _, f1, f2⟩ := drive_ok h
  unfold driveErr dr1
  rw [wi_t.2 t1, wi_t.2 l1, wi_t.2 h1, wi_t.2 ⟨r0, r1⟩, wi_t.2 ⟨f1, f2⟩]
  have : decide (lo ≤ hi) = true := by simp; omega
  rw [this]
  rfl
theorem leastRate (t lo hi st ra : Int) (bd bs : Nat) (A : Option Addr) (n c : Nat) (xs : Nat → Int) (w : World) (hA : IA w A n xs) (hd : driveErr t lo hi st ra = 0) (hn : n ≤ 40) (hx : ∀ i, i < n → 0 ≤ xs i ∧ xs i ≤ t - 1)
    (d0 : w.cell? ⟨bd, 0, none⟩ = some (.int .i64 t)) (d1 : w.cell? ⟨bd, 1, none⟩ = some (.int .i64 lo)) (d2 : w.cell? ⟨bd, 2, none⟩ = some (.int .i64 hi)) (d3 : w.cell? ⟨bd, 3, none⟩ = some (.int .i64 st)) (d4 : w.cell? ⟨bd, 4, none⟩ = some (.int .i64 ra)) (s0 : w.cell? ⟨bs, 0, none⟩ = some (.slice A n c)) :
    Calls Try.prog 69 #[.int .i64 0, .int .i64 40000, .func (.func 70) #[] #[.pointer (some ⟨bd, 0, none⟩), .pointer (some ⟨bs, 0, none⟩)]] w (SomeL (okB t lo hi st n xs) 0 40000 w) :=
  least_any 70 _ 0 40000 _ w (enters_of Try.func70 (by kernel_rfl) rfl) (by omega) (by omega) (by omega) (fun r w1 h1 h2 hb =>
    minimumRate1_any t lo hi st ra r bd bs A n c xs w1 (hA.below hb) (drive_rate hd h1 h2) hn hx (keep hb d0) (keep hb d1) (keep hb d2) (keep hb d3) (keep hb d4) (keep hb s0))
set_option maxRecDepth 100000 in
set_option maxHeartbeats 2000000 in
theorem minimumRate_any (t lo hi st ra : Int) (A : Option Addr) (n c : Nat) (xs : Nat → Int) (w : World) (hn : n ≤ 9223372036854775807) (hA : IA w A n xs) :
    Calls Try.prog 31 #[.agg #[.int .i64 t, .int .i64 lo, .int .i64 hi, .int .i64 st, .int .i64 ra], .slice A n c] w (SomeRate t lo hi st ra n xs w) := by
  have HC := fun W hW => Lib.hid (checkTargets_any t lo hi st ra A n c xs W hn hW)
  have HA := Lib.hid hA
  by_cases h0 : ptErr t lo hi st ra n xs = 0
  · obtain ⟨hd, hn40, hx⟩ := pt_ok h0
    have HS : Hid (∀ e w', Below w.heap.size w w' → (∃ r, RL (okB t lo hi st n xs) 0 40000 r ∧ ((40000 < r ∧ e = .returned (.tuple #[.int .i64 0, .int .i64 12])) ∨ (r ≤ 40000 ∧ e = .returned (.tuple #[.int .i64 r, .int .i64 0])))) → SomeRate t lo hi st ra n xs w e w') := fun e w' hb h => ⟨hb, .inr ⟨h0, h⟩⟩
    rw [h0] at HC
    clear hA h0
    go_enter Try.func31, Try.ntmps31
    go_wp2_with (first
      | (go_at_call 58; (with_reducible refine Calls.mono (HC _ (HA.out.below (by (repeat (first | with_reducible exact Below.refl _ _ | with_reducible assumption | with_reducible refine Below.alloc ?_ (by first | (simp; done) | (simp; omega) | omega) _ | with_reducible refine Below.setCell ?_ (by first | (simp; done) | (simp; omega) | omega) _ | with_reducible refine Below.drew ?_ | with_reducible refine below_drewN ?_ _))))).out ?_); rintro e w1 ⟨rfl, hb1⟩; have B1 := Lib.hid (thenB (show Below w.heap.size w _ by (repeat (first | with_reducible exact Below.refl _ _ | with_reducible assumption | with_reducible refine Below.alloc ?_ (by first | (simp; done) | (simp; omega) | omega) _ | with_reducible refine Below.setCell ?_ (by first | (simp; done) | (simp; omega) | omega) _ | with_reducible refine Below.drew ?_ | with_reducible refine below_drewN ?_ _))) hb1); have d0 := (hb1.cell (p := ⟨w.heap.size, 0, none⟩) (by first | (simp; done) | (simp; omega) | omega)).trans (show _ = some (.int .i64 t) by simp [go_sem]); have d1 := (hb1.cell (p := ⟨w.heap.size, 1, none⟩) (by first | (simp; done) | (simp; omega) | omega)).trans (show _ = some (.int .i64 lo) by simp [go_sem]); have d2 := (hb1.cell (p := ⟨w.heap.size, 2, none⟩) (by first | (simp; done) | (simp; omega) | omega)).trans (show _ = some (.int .i64 hi) by simp [go_sem]); have d3 := (hb1.cell (p := ⟨w.heap.size, 3, none⟩) (by first | (simp; done) | (simp; omega) | omega)).trans (show _ = some (.int .i64 st) by simp [go_sem]); have d4 := (hb1.cell (p := ⟨w.heap.size, 4, none⟩) (by first | (simp; done) | (simp; omega) | omega)).trans (show _ = some (.int .i64 ra) by simp [go_sem]); have s0 := (hb1.cell (p := ⟨w.heap.size + 1, 0, none⟩) (by first | (simp; done) | (simp; omega) | omega)).trans (show _ = some (.slice A n c) by simp [go_sem]); clear hb1)
      | (go_at_call 69; (with_reducible refine Calls.mono (leastRate t lo hi st ra w.heap.size (w.heap.size + 1) A n c xs _ (HA.out.below B1.out) hd hn40 hx d0 d1 d2 d3 d4 s0) ?_); rintro e w2 ⟨r, rfl, hr, hb2⟩; have B2 := Lib.hid (thenB B1.out hb2); have HR := Lib.hid hr; clear hb2 hr)
      | fail)
    all_goals
      go_ret2
      first
        | exact HS.out _ _ B2.out ⟨r, HR.out, .inl ⟨by omega, rfl⟩⟩
        | exact HS.out _ _ B2.out ⟨r, HR.out, .inr ⟨by omega, rfl⟩⟩
  · have HS : Hid (∀ e w', Below w.heap.size w w' → e = .returned (.tuple #[.int .i64 0, .int .i64 (ptErr t lo hi st ra n xs)]) → SomeRate t lo hi st ra n xs w e w') := fun e w' hb h => ⟨hb, .inl ⟨h0, h⟩⟩
    have g0 : (ptErr t lo hi st ra n xs != 0) = true := by simp [h0]
    have g1 : (ptErr t lo hi st ra n xs == 0) = false := by simp [h0]
    clear hA h0
    generalize ptErr t lo hi st ra n xs = P at HC g0 g1 HS
    go_enter Try.func31, Try.ntmps31
    go_wp2_with (first
      | (go_at_call 58; (with_reducible refine Calls.mono (HC _ (HA.out.below (by (repeat (first | with_reducible exact Below.refl _ _ | with_reducible assumption | with_reducible refine Below.alloc ?_ (by first | (simp; done) | (simp; omega) | omega) _ | with_reducible refine Below.setCell ?_ (by first | (simp; done) | (simp; omega) | omega) _ | with_reducible refine Below.drew ?_ | with_reducible refine below_drewN ?_ _))))).out ?_); rintro e w1 ⟨rfl, hb1⟩; have B1 := Lib.hid (thenB (show Below w.heap.size w _ by (repeat (first | with_reducible exact Below.refl _ _ | with_reducible assumption | with_reducible refine Below.alloc ?_ (by first | (simp; done) | (simp; omega) | omega) _ | with_reducible refine Below.setCell ?_ (by first | (simp; done) | (simp; omega) | omega) _ | with_reducible refine Below.drew ?_ | with_reducible refine below_drewN ?_ _))) hb1); clear hb1)
      | fail)
    go_ret2
    exact HS.out _ _ B1.out rfl
end Go.Proofs.Ytolondcbllkimaa
