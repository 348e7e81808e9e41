/- Helpers: the root of a square over a denominator (the document's own). -/
import Derived.Test.YtnfoagcpgegldaaGreatB35
namespace Go.Proofs.YtnfoagcpgegldaaGreat
open Go.RowKit Go.Shelf Go.Sort
attribute [local go_sem] idx3_0 idx3_1 idx3_2 old1 fro1 old2 fro2 old3 fro3 old4 fro4 old5 fro5 old6 fro6 old7 fro7 old8 fro8 old9 fro9 old10 fro10 old11 fro11 old12 fro12
/-- The greatest number whose square is not above, and whether it is just that. -/
def SomeRoot (N den : Int) (w : World) (e : Ending) (w' : World) : Prop :=
  ∃ r : Int, (0 ≤ r ∧ r ≤ 8000000) ∧ r * den * (r * den) ≤ N ∧ (r = 8000000 ∨ N < (r + 1) * den * ((r + 1) * den)) ∧ e = .returned (.tuple #[.int .i64 r, .bool (decide (r * den * (r * den) = N))]) ∧ Below w.heap.size w w'
theorem sgn_le {x : Int} : (sgn x ≤ 0 ↔ x ≤ 0) ∧ (sgn x = 0 ↔ x = 0) := by
  rcases Int.lt_trichotomy x 0 with h | h | h
  · rw [sgn_n h]; omega
  · subst h; rw [sgn_0]; omega
  · rw [sgn_p h]; omega
theorem sq_bp {x : Int} (h0 : 0 ≤ x) (h1 : x ≤ 9000000000000000000) : 0 ≤ x * x ∧ x * x < bp 50 := by
  have a := Int.mul_le_mul h1 h1 h0 (by omega)
  have b := Int.mul_nonneg h0 h0
  have c := bp_mono (show 5 ≤ 50 by decide)
  have d : bp 5 = 1000000000000000000000000000000000000000000000 := by decide
  omega
/-- A square compared with a number: the two calls. -/
theorem cmp_sq (x N : Int) (A : Option Addr) (c : Nat) (h0 : 0 ≤ x) (h1 : x ≤ 9000000000000000000) (hN : siz N < bp 50) :
    (∀ W, Hid (Calls Tryz.prog 75 #[.int .i64 x] W fun e w' => ∃ A' c2, e = .returned (.agg #[.int .i64 (sgn (x * x)), .slice A' (ln (x * x)) c2]) ∧ DR w' A' (ln (x * x)) c2 (x * x) ∧ Below W.heap.size W w')) ∧
    (∀ W A1 c1, DR W A1 (ln (x * x)) c1 (x * x) → DR W A (ln (siz N)) c (siz N) → Hid (Calls Tryz.prog 74 #[.agg #[.int .i64 (sgn (x * x)), .slice A1 (ln (x * x)) c1], .agg #[.int .i64 (sgn N), .slice A (ln (siz N)) c]] W fun e w' => e = .returned (.int .i64 (sgn (x * x - N))) ∧ Below W.heap.size W w')) := by
  obtain ⟨q1, q2⟩ := sq_bp h0 h1
  have hs : siz (x * x) = x * x := siz_p q1
  refine ⟨fun W => ?_, fun W A1 c1 a b => ?_⟩
  · refine (square_any x W (by omega) (by omega)).mono ?_
    rintro e w' ⟨A', c2, rfl, hd, hb⟩
    unfold WV
    rw [hs] at *
    exact ⟨A', c2, rfl, hd.1, hb⟩
  · have := wideCmp_any (x * x) N A1 A c1 c W (by rw [hs]; exact q2) hN (by rw [hs]; exact a) b
    unfold WV at this
    rw [hs] at this
    exact this
set_option maxRecDepth 100000 in
set_option maxHeartbeats 4000000 in
theorem rootOf_any (N den : Int) (A : Option Addr) (c : Nat) (w : World) (N0 : 0 ≤ N) (hN : siz N < bp 50) (d1 : 1 ≤ den) (d2 : den ≤ 100000000) (hA : DR w A (ln (siz N)) c (siz N)) :
    Calls Tryz.prog 61 #[WV N A c, .int .i64 den] w (SomeRoot N den w) := by
  have HCS := fun x h0 h1 => Lib.hid (cmp_sq x N A c h0 h1 hN)
  have HA := Lib.hid hA
  clear hA hN
  unfold WV
  generalize hsN : sgn N = s at *
  generalize ln (siz N) = n at *
  generalize siz N = Z at *
  have HSN := Lib.hid hsN
  clear hsN
  go_enter Tryz.func61, Tryz.ntmps61
  go_wp2_with fail
  go_loopw [6, 7] (fun s6 s7 wr => ∃ lo hi : Int, s6 = .int .i64 lo ∧ s7 = .int .i64 hi ∧ (0 ≤ lo ∧ lo ≤ hi ∧ hi ≤ 8000000) ∧ (wr.cell? ⟨w.heap.size, 0, none⟩ = some (.int .i64 s) ∧ wr.cell? ⟨w.heap.size, 1, none⟩ = some (.slice A n c)) ∧ Below w.heap.size w wr ∧ Hid (lo * den * (lo * den) ≤ N ∧ (hi = 8000000 ∨ N < (hi + 1) * den * ((hi + 1) * den)))) (fun l h _ => (intOf h - intOf l).toNat)
  case atStart => exact ⟨0, 8000000, rfl, rfl, ⟨by omega, by omega, by omega⟩, ⟨by simp [go_sem], by simp [go_sem]⟩, by (repeat (first | with_reducible exact Below.refl _ _ | with_reducible assumption | with_reducible refine Below.alloc ?_ (by first | (simp; done) | (simp; omega) | omega) _ | with_reducible refine Below.setCell ?_ (by first | (simp; done) | (simp; omega) | omega) _ | with_reducible refine Below.drew ?_ | with_reducible refine below_drewN ?_ _)), by rw [Int.zero_mul, Int.zero_mul]; exact N0, .inl rfl⟩
  case round =>
    obtain ⟨lo, hi, rfl, rfl, ⟨l0, l1, l2⟩, ⟨p0, p1⟩, hb, HI⟩ := hrel
    by_cases hlt : lo < hi
    · obtain ⟨mid, hm⟩ : ∃ mid, mid = (lo + hi + 1) / 2 := ⟨_, rfl⟩
      have m1 : lo < mid := by omega
      have m2 : mid ≤ hi := by omega
      have m3 : 0 ≤ mid * den := Int.mul_nonneg (by omega) (by omega)
      have m4 : mid * den ≤ 8000000 * 100000000 := Int.mul_le_mul (by omega) d2 (by omega) (by omega)
      obtain ⟨HSQ, HCM⟩ := (HCS (mid * den) m3 (by omega)).out
      have hsg := (@sgn_le (mid * den * (mid * den) - N)).1
      have u1 : IntKind.i64.wrap (lo + hi) = lo + hi := IntWalk.i64_in _ (by omega)
      have u2 : IntKind.i64.wrap (lo + hi + 1) = lo + hi + 1 := IntWalk.i64_in _ (by omega)
      have u3 : (lo + hi + 1).tdiv 2 = mid := by rw [Int.tdiv_eq_ediv_of_nonneg (by omega), hm]
      have u4 : IntKind.i64.wrap mid = mid := IntWalk.i64_in _ (by omega)
      have u5 : IntKind.i64.wrap (mid * den) = mid * den := IntWalk.i64_in _ (by omega)
      have u8 : IntKind.i64.wrap (mid - 1) = mid - 1 := IntWalk.i64_in _ (by omega)
      have hws := hb.size
      clear hm m3 m4
      by_cases hc : mid * den * (mid * den) ≤ N
      · have hv : sgn (mid * den * (mid * den) - N) ≤ 0 := hsg.2 (by omega)
        have HC := Lib.hid hc
        clear hc hsg
        generalize hX : mid * den * (mid * den) = X at *
        have HX := Lib.hid hX
        clear hX
        generalize sgn (X - N) = v at *
        generalize ln X = nx at *
        generalize sgn X = sx at *
        go_wp2_with fail
        go_region_held3 (fun w' => w'.cell? ⟨w.heap.size, 0, none⟩ = some (.int .i64 s) ∧ w'.cell? ⟨w.heap.size, 1, none⟩ = some (.slice A n c)) (simp [go_sem, *])
          (first
            | (go_at_call 75; (with_reducible refine Calls.mono (HSQ _).out ?_); rintro e w1 ⟨A1, c1, rfl, hd1, hb1⟩; have B1 := Lib.hid (thenD (show Below w.heap.size w _ by (repeat (first | with_reducible exact Below.refl _ _ | with_reducible assumption | with_reducible refine Below.alloc ?_ (by first | (simp; done) | (simp; omega) | omega) _ | with_reducible refine Below.setCell ?_ (by first | (simp; done) | (simp; omega) | omega) _ | with_reducible refine Below.drew ?_ | with_reducible refine below_drewN ?_ _))) hb1); have HD1 := Lib.hid hd1; have q0 := (hb1.cell (p := ⟨w.heap.size, 0, none⟩) (lt_of p0)).trans (show _ = some (.int .i64 s) by simp [go_sem, *]); have q1 := (hb1.cell (p := ⟨w.heap.size, 1, none⟩) (lt_of p1)).trans (show _ = some (.slice A n c) by simp [go_sem, *]); clear hd1 hb1)
            | (go_at_call 74; (with_reducible refine Calls.mono (HCM _ A1 c1 HD1.out (HA.out.below B1.out)).out ?_); rintro e w2 ⟨rfl, hb2⟩; have B2 := Lib.hid (thenD B1.out hb2); have t0 := keep hb2 q0; have t1 := keep hb2 q1; clear hb2)
            | fail)
        all_goals
          go_wp2_with fail
          go_roundw
          case rel => exact ⟨mid, hi, rfl, rfl, ⟨by omega, by omega, by omega⟩, ⟨by assumption, by assumption⟩, by have B := B2.out; (repeat (first | with_reducible exact Below.refl _ _ | with_reducible assumption | with_reducible refine Below.alloc ?_ (by first | (simp; done) | (simp; omega) | omega) _ | with_reducible refine Below.setCell ?_ (by first | (simp; done) | (simp; omega) | omega) _ | with_reducible refine Below.drew ?_ | with_reducible refine below_drewN ?_ _)), by rw [HX.out]; exact HC.out, HI.out.2⟩
          case measure => simp [intOf]; omega
      · have hv : ¬ sgn (mid * den * (mid * den) - N) ≤ 0 := fun h => hc (by have := hsg.1 h; omega)
        have HC : Hid (N < (mid - 1 + 1) * den * ((mid - 1 + 1) * den)) := by rw [show mid - 1 + 1 = mid by omega]; exact (by omega : N < mid * den * (mid * den))
        clear hc hsg
        generalize mid * den * (mid * den) = X at *
        generalize sgn (X - N) = v at *
        generalize ln X = nx at *
        generalize sgn X = sx at *
        go_wp2_with fail
        go_region_held3 (fun w' => w'.cell? ⟨w.heap.size, 0, none⟩ = some (.int .i64 s) ∧ w'.cell? ⟨w.heap.size, 1, none⟩ = some (.slice A n c)) (simp [go_sem, *])
          (first
            | (go_at_call 75; (with_reducible refine Calls.mono (HSQ _).out ?_); rintro e w1 ⟨A1, c1, rfl, hd1, hb1⟩; have B1 := Lib.hid (thenD (show Below w.heap.size w _ by (repeat (first | with_reducible exact Below.refl _ _ | with_reducible assumption | with_reducible refine Below.alloc ?_ (by first | (simp; done) | (simp; omega) | omega) _ | with_reducible refine Below.setCell ?_ (by first | (simp; done) | (simp; omega) | omega) _ | with_reducible refine Below.drew ?_ | with_reducible refine below_drewN ?_ _))) hb1); have HD1 := Lib.hid hd1; have q0 := (hb1.cell (p := ⟨w.heap.size, 0, none⟩) (lt_of p0)).trans (show _ = some (.int .i64 s) by simp [go_sem, *]); have q1 := (hb1.cell (p := ⟨w.heap.size, 1, none⟩) (lt_of p1)).trans (show _ = some (.slice A n c) by simp [go_sem, *]); clear hd1 hb1)
            | (go_at_call 74; (with_reducible refine Calls.mono (HCM _ A1 c1 HD1.out (HA.out.below B1.out)).out ?_); rintro e w2 ⟨rfl, hb2⟩; have B2 := Lib.hid (thenD B1.out hb2); have t0 := keep hb2 q0; have t1 := keep hb2 q1; clear hb2)
            | fail)
        all_goals
          go_wp2_with fail
          go_roundw
          case rel => exact ⟨lo, mid - 1, rfl, rfl, ⟨by omega, by omega, by omega⟩, ⟨by assumption, by assumption⟩, by have B := B2.out; (repeat (first | with_reducible exact Below.refl _ _ | with_reducible assumption | with_reducible refine Below.alloc ?_ (by first | (simp; done) | (simp; omega) | omega) _ | with_reducible refine Below.setCell ?_ (by first | (simp; done) | (simp; omega) | omega) _ | with_reducible refine Below.drew ?_ | with_reducible refine below_drewN ?_ _)), HI.out.1, .inr HC.out⟩
          case measure => simp [intOf]; omega
    · obtain rfl : lo = hi := by omega
      have m3 : 0 ≤ lo * den := Int.mul_nonneg (by omega) (by omega)
      have m4 : lo * den ≤ 8000000 * 100000000 := Int.mul_le_mul (by omega) d2 (by omega) (by omega)
      obtain ⟨HSQ, HCM⟩ := (HCS (lo * den) m3 (by omega)).out
      have hsg := (@sgn_le (lo * den * (lo * den) - N)).2
      have u5 : IntKind.i64.wrap (lo * den) = lo * den := IntWalk.i64_in _ (by omega)
      have hdec : Hid ((sgn (lo * den * (lo * den) - N) == 0) = decide (lo * den * (lo * den) = N)) := by
        have : (lo * den * (lo * den) - N = 0) ↔ lo * den * (lo * den) = N := by omega
        rw [Bool.eq_iff_iff, beq_iff_eq, decide_eq_true_eq, hsg, this]
        exact Iff.rfl
      have hws := hb.size
      clear m3 m4 hsg
      have HF := HI
      clear HI
      generalize sgn (lo * den * (lo * den) - N) = v at *
      generalize ln (lo * den * (lo * den)) = nx at *
      generalize sgn (lo * den * (lo * den)) = sx at *
      go_wp2_with fail
      go_region_held3 (fun w' => w'.cell? ⟨w.heap.size, 0, none⟩ = some (.int .i64 s) ∧ w'.cell? ⟨w.heap.size, 1, none⟩ = some (.slice A n c)) (simp [go_sem, *])
          (first
            | (go_at_call 75; (with_reducible refine Calls.mono (HSQ _).out ?_); rintro e w1 ⟨A1, c1, rfl, hd1, hb1⟩; have B1 := Lib.hid (thenD (show Below w.heap.size w _ by (repeat (first | with_reducible exact Below.refl _ _ | with_reducible assumption | with_reducible refine Below.alloc ?_ (by first | (simp; done) | (simp; omega) | omega) _ | with_reducible refine Below.setCell ?_ (by first | (simp; done) | (simp; omega) | omega) _ | with_reducible refine Below.drew ?_ | with_reducible refine below_drewN ?_ _))) hb1); have HD1 := Lib.hid hd1; have q0 := (hb1.cell (p := ⟨w.heap.size, 0, none⟩) (lt_of p0)).trans (show _ = some (.int .i64 s) by simp [go_sem, *]); have q1 := (hb1.cell (p := ⟨w.heap.size, 1, none⟩) (lt_of p1)).trans (show _ = some (.slice A n c) by simp [go_sem, *]); clear hd1 hb1)
            | (go_at_call 74; (with_reducible refine Calls.mono (HCM _ A1 c1 HD1.out (HA.out.below B1.out)).out ?_); rintro e w2 ⟨rfl, hb2⟩; have B2 := Lib.hid (thenD B1.out hb2); have t0 := keep hb2 q0; have t1 := keep hb2 q1; clear hb2)
            | fail)
      all_goals
        go_wp2_with fail
        go_ret2
        exact ⟨lo, ⟨by omega, by omega⟩, HF.out.1, HF.out.2, by rw [← hdec.out]; rfl, by have B := B2.out; (repeat (first | with_reducible exact Below.refl _ _ | with_reducible assumption | with_reducible refine Below.alloc ?_ (by first | (simp; done) | (simp; omega) | omega) _ | with_reducible refine Below.setCell ?_ (by first | (simp; done) | (simp; omega) | omega) _ | with_reducible refine Below.drew ?_ | with_reducible refine below_drewN ?_ _))⟩
end Go.Proofs.YtnfoagcpgegldaaGreat
