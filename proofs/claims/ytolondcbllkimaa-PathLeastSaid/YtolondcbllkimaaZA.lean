/- Helpers: the law PathPointing returns true for every input. -/
import Derived.Test.YtolondcbllkimaaZ
namespace Go.Proofs.Ytolondcbllkimaa
open Go.RowKit Go.Shelf Go.Sort
attribute [local go_sem] idx3_0 idx3_1 idx3_2 old1 fro1 old2 fro2 old3 fro3 old4 fro4 old5 fro5 old6 fro6 old7 fro7 old8 fro8 old9 fro9 old10 fro10 old11 fro11 old12 fro12
theorem copyInts_any (A : Option Addr) (n c : Nat) (xs : Nat → Int) (w : World) (hn : n ≤ 1000000) (h0 : A = none → n = 0 ∧ c = 0) (hA : IA w A n xs) :
    Calls Try.prog 18 #[.slice A n c] w fun e w' => ∃ A' c', e = .returned (.slice A' n c') ∧ IA w' A' n xs ∧ Below w.heap.size w w' := by
  cases A with
  | some a => exact copyInts_some a n c xs w hn hA
  | none =>
    obtain ⟨rfl, rfl⟩ := h0 rfl
    exact (copyInts_nil w).mono fun e w' ⟨A', c', he, hb⟩ => ⟨A', c', he, fun h => absurd h (Nat.lt_irrefl 0), hb⟩
/-- The travel and the error that CheckPointing answers. -/
def cpV (t lo hi st ra : Int) (n m : Nat) (xs ys : Nat → Int) : Int := if ptErr t lo hi st ra n xs = 0 then (if m = n then cpTr t lo hi st ra n xs ys else 0) else 0
def cpF (t lo hi st ra : Int) (n m : Nat) (xs ys : Nat → Int) : Int := if ptErr t lo hi st ra n xs = 0 then (if m = n then ferr (cpi t lo hi st ra xs ys) 0 n else 10) else ptErr t lo hi st ra n xs
theorem checkPointing_all (t lo hi st ra : Int) (A B : Option Addr) (n c m c' : Nat) (xs ys : Nat → Int) (w : World) (hn : n ≤ 1000000) (hA : IA w A n xs) (hB : IA w B m ys) :
    Calls Try.prog 17 #[.agg #[.int .i64 t, .int .i64 lo, .int .i64 hi, .int .i64 st, .int .i64 ra], .slice A n c, .slice B m c'] w fun e w' => e = .returned (.tuple #[.int .i64 (cpV t lo hi st ra n m xs ys), .int .i64 (cpF t lo hi st ra n m xs ys)]) ∧ Below w.heap.size w w' := by
  by_cases h0 : ptErr t lo hi st ra n xs = 0
  · by_cases hm : m = n
    · subst hm
      have := checkPointing_c t lo hi st ra A B m c m c' xs ys w (by omega) hA hB h0
      unfold cpV cpF
      rw [if_pos h0, if_pos h0, if_pos rfl, if_pos rfl]
      exact this
    · have := checkPointing_b t lo hi st ra A B n c m c' xs ys w (by omega) hA h0 hm
      unfold cpV cpF
      rw [if_pos h0, if_pos h0, if_neg hm, if_neg hm]
      exact this
  · have := checkPointing_a t lo hi st ra A B n c m c' xs ys w (by omega) hA h0
    unfold cpV cpF
    rw [if_neg h0, if_neg h0]
    exact this
theorem rcheck_all (t lo hi st ra : Int) (A B : Option Addr) (n c m c' : Nat) (xs ys : Nat → Int) (w : World) (hn : n ≤ 1000000) (hm : m ≤ 1000000) (hA : IA w A n xs) (hB : IA w B m ys) (h0 : ptErr t lo hi st ra n xs = 0) :
    Calls Try.prog 21 #[.agg #[.int .i64 t, .int .i64 lo, .int .i64 hi, .int .i64 st, .int .i64 ra], .slice A n c, .slice B m c'] w fun e w' => e = .returned (.tuple #[.int .i64 (cpV t lo hi st ra n m xs ys), .int .i64 (cpF t lo hi st ra n m xs ys)]) ∧ Below w.heap.size w w' := by
  unfold cpV cpF
  rw [if_pos h0, if_pos h0]
  by_cases he : m = n
  · subst he
    rw [if_pos rfl, if_pos rfl]
    exact rcheck_c t lo hi st ra A B m c c' xs ys w (by omega) hA hB h0
  · rw [if_neg he, if_neg he]
    exact rcheck_b t lo hi st ra A B n c m c' w hn hm he
theorem pe_0 {t lo hi st ra : Int} {n : Nat} {xs : Nat → Int} (h : driveErr t lo hi st ra = 0) : ptErr t lo hi st ra n xs = tgErr n xs t := by unfold ptErr; rw [if_pos h]
theorem pe_1 {t lo hi st ra : Int} {n : Nat} {xs : Nat → Int} (h : driveErr t lo hi st ra ≠ 0) : ptErr t lo hi st ra n xs = driveErr t lo hi st ra := by unfold ptErr; rw [if_neg h]
set_option maxRecDepth 100000 in
set_option maxHeartbeats 2000000 in
theorem pp_walk (t lo hi st ra : Int) (A B : Option Addr) (n c m c' : Nat) (xs ys : Nat → Int) (V F D T : Int) (w : World) (hA0 : A = none → n = 0 ∧ c = 0) (hB0 : B = none → m = 0 ∧ c' = 0) (hA : IA w A n xs) (hB : IA w B m ys) (hnn : n ≤ 20 ∨ 41 ≤ n ∧ n ≤ 42) (hmm : m ≤ 22)
    (hC : ∀ W A2 c2 A3 c3, IA W A2 n xs → IA W A3 m ys → Calls Try.prog 17 #[.agg #[.int .i64 t, .int .i64 lo, .int .i64 hi, .int .i64 st, .int .i64 ra], .slice A2 n c2, .slice A3 m c3] W fun e w' => e = .returned (.tuple #[.int .i64 V, .int .i64 F]) ∧ Below W.heap.size W w')
    (hD : ∀ W, Calls Try.prog 19 #[.agg #[.int .i64 t, .int .i64 lo, .int .i64 hi, .int .i64 st, .int .i64 ra]] W fun e w' => e = .returned (.int .i64 D) ∧ Below W.heap.size W w')
    (hT : D = 0 → ∀ W, IA W A n xs → Calls Try.prog 20 #[.agg #[.int .i64 t, .int .i64 lo, .int .i64 hi, .int .i64 st, .int .i64 ra], .slice A n c] W fun e w' => e = .returned (.int .i64 T) ∧ Below W.heap.size W w')
    (hR : D = 0 → T = 0 → ∀ W, IA W A n xs → IA W B m ys → Calls Try.prog 21 #[.agg #[.int .i64 t, .int .i64 lo, .int .i64 hi, .int .i64 st, .int .i64 ra], .slice A n c, .slice B m c'] W fun e w' => e = .returned (.tuple #[.int .i64 V, .int .i64 F]) ∧ Below W.heap.size W w')
    (h1 : D ≠ 0 → V = 0 ∧ F = D) (h2 : D = 0 → T ≠ 0 → V = 0 ∧ F = T) :
    Calls Try.prog 4 #[.agg #[.int .i64 t, .int .i64 lo, .int .i64 hi, .int .i64 st, .int .i64 ra], .slice A n c, .slice B m c'] w fun e w' => e = .returned (.bool true) ∧ Below w.heap.size w w' := by
  have HA := Lib.hid hA
  have HB := Lib.hid hB
  have HA0 := Lib.hid hA0
  have HB0 := Lib.hid hB0
  have HC := Lib.hid hC
  have HD := Lib.hid hD
  clear hA hB hA0 hB0 hC hD
  by_cases hd : D = 0
  · have HT := Lib.hid (hT hd)
    have hR2 := hR hd
    have h22 := h2 hd
    subst hd
    clear hT h1 hR h2
    by_cases ht : T = 0
    · have HR := Lib.hid (hR2 ht)
      subst ht
      clear hR2 h22
      go_enter Try.func4, Try.ntmps4
      go_wp2_with (first
        | (go_at_call 9; (with_reducible refine Calls.mono (awake_any _) ?_); rintro e w1 ⟨rfl, hb1⟩; have B1 := Lib.hid (thenB (show Below w.heap.size w _ by (repeat (first | with_reducible exact Below.refl _ _ | with_reducible assumption | with_reducible refine Below.alloc ?_ (by first | (simp; done) | (simp; omega) | omega) _ | with_reducible refine Below.setCell ?_ (by first | (simp; done) | (simp; omega) | omega) _ | with_reducible refine Below.drew ?_ | with_reducible refine below_drewN ?_ _))) hb1); have d0 := (hb1.cell (p := ⟨w.heap.size, 0, none⟩) (by first | (simp; done) | (simp; omega) | omega)).trans (show _ = some (.int .i64 t) by simp [go_sem]); have d1 := (hb1.cell (p := ⟨w.heap.size, 1, none⟩) (by first | (simp; done) | (simp; omega) | omega)).trans (show _ = some (.int .i64 lo) by simp [go_sem]); have d2 := (hb1.cell (p := ⟨w.heap.size, 2, none⟩) (by first | (simp; done) | (simp; omega) | omega)).trans (show _ = some (.int .i64 hi) by simp [go_sem]); have d3 := (hb1.cell (p := ⟨w.heap.size, 3, none⟩) (by first | (simp; done) | (simp; omega) | omega)).trans (show _ = some (.int .i64 st) by simp [go_sem]); have d4 := (hb1.cell (p := ⟨w.heap.size, 4, none⟩) (by first | (simp; done) | (simp; omega) | omega)).trans (show _ = some (.int .i64 ra) by simp [go_sem]); clear hb1)
        | fail)
      all_goals
        go_region_held3 (fun w' => w'.cell? ⟨w.heap.size, 0, none⟩ = some (.int .i64 t) ∧ w'.cell? ⟨w.heap.size, 1, none⟩ = some (.int .i64 lo) ∧ w'.cell? ⟨w.heap.size, 2, none⟩ = some (.int .i64 hi) ∧ w'.cell? ⟨w.heap.size, 3, none⟩ = some (.int .i64 st) ∧ w'.cell? ⟨w.heap.size, 4, none⟩ = some (.int .i64 ra)) (simp [go_sem, *]) (first
      | (go_at_call 18; ((with_reducible refine Calls.mono (copyInts_any A n c xs _ (by omega) HA0.out (HA.out.below (by have B := B1.out; (repeat (first | with_reducible exact Below.refl _ _ | with_reducible assumption | with_reducible refine Below.alloc ?_ (by first | (simp; done) | (simp; omega) | omega) _ | with_reducible refine Below.setCell ?_ (by first | (simp; done) | (simp; omega) | omega) _ | with_reducible refine Below.drew ?_ | with_reducible refine below_drewN ?_ _))))) ?_); rintro e w2 ⟨A2, c2, rfl, hA2, hb2⟩; have B2 := Lib.hid (thenB (show Below w.heap.size w _ by have B := B1.out; (repeat (first | with_reducible exact Below.refl _ _ | with_reducible assumption | with_reducible refine Below.alloc ?_ (by first | (simp; done) | (simp; omega) | omega) _ | with_reducible refine Below.setCell ?_ (by first | (simp; done) | (simp; omega) | omega) _ | with_reducible refine Below.drew ?_ | with_reducible refine below_drewN ?_ _))) hb2); have e0 := keep hb2 d0; have e1 := keep hb2 d1; have e2 := keep hb2 d2; have e3 := keep hb2 d3; have e4 := keep hb2 d4; have HA2 := Lib.hid hA2; clear hA2 hb2))
      | (go_at_call 18; ((with_reducible refine Calls.mono (copyInts_any B m c' ys _ (by omega) HB0.out (HB.out.below (by have B := B2.out; (repeat (first | with_reducible exact Below.refl _ _ | with_reducible assumption | with_reducible refine Below.alloc ?_ (by first | (simp; done) | (simp; omega) | omega) _ | with_reducible refine Below.setCell ?_ (by first | (simp; done) | (simp; omega) | omega) _ | with_reducible refine Below.drew ?_ | with_reducible refine below_drewN ?_ _))))) ?_); rintro e w3 ⟨A3, c3, rfl, hA3, hb3⟩; have B3 := Lib.hid (thenB (show Below w.heap.size w _ by have B := B2.out; (repeat (first | with_reducible exact Below.refl _ _ | with_reducible assumption | with_reducible refine Below.alloc ?_ (by first | (simp; done) | (simp; omega) | omega) _ | with_reducible refine Below.setCell ?_ (by first | (simp; done) | (simp; omega) | omega) _ | with_reducible refine Below.drew ?_ | with_reducible refine below_drewN ?_ _))) hb3); have g0 := keep hb3 e0; have g1 := keep hb3 e1; have g2 := keep hb3 e2; have g3 := keep hb3 e3; have g4 := keep hb3 e4; have HA3 := Lib.hid (HA2.out.below hb3); have HA4 := Lib.hid hA3; clear hA3 hb3))
      | (go_at_call 17; ((with_reducible refine Calls.mono (HC.out _ A2 c2 A3 c3 HA3.out HA4.out) ?_); rintro e w4 ⟨rfl, hb4⟩; have B4 := Lib.hid (thenB (show Below w.heap.size w _ by have B := B3.out; (repeat (first | with_reducible exact Below.refl _ _ | with_reducible assumption | with_reducible refine Below.alloc ?_ (by first | (simp; done) | (simp; omega) | omega) _ | with_reducible refine Below.setCell ?_ (by first | (simp; done) | (simp; omega) | omega) _ | with_reducible refine Below.drew ?_ | with_reducible refine below_drewN ?_ _))) hb4); have k0 := keep hb4 g0; have k1 := keep hb4 g1; have k2 := keep hb4 g2; have k3 := keep hb4 g3; have k4 := keep hb4 g4; clear hb4)))
        all_goals
          go_wp2_with (first
            | (go_at_call 19; ((with_reducible refine Calls.mono (HD.out _) ?_); rintro e w5 ⟨rfl, hb5⟩; have B5 := Lib.hid (thenB (show Below w.heap.size w _ by have B := B4.out; (repeat (first | with_reducible exact Below.refl _ _ | with_reducible assumption | with_reducible refine Below.alloc ?_ (by first | (simp; done) | (simp; omega) | omega) _ | with_reducible refine Below.setCell ?_ (by first | (simp; done) | (simp; omega) | omega) _ | with_reducible refine Below.drew ?_ | with_reducible refine below_drewN ?_ _))) hb5); have p0 := keep hb5 k0; have p1 := keep hb5 k1; have p2 := keep hb5 k2; have p3 := keep hb5 k3; have p4 := keep hb5 k4; clear hb5))
            | (go_at_call 20; ((with_reducible refine Calls.mono (HT.out _ (HA.out.below (by have B := B5.out; (repeat (first | with_reducible exact Below.refl _ _ | with_reducible assumption | with_reducible refine Below.alloc ?_ (by first | (simp; done) | (simp; omega) | omega) _ | with_reducible refine Below.setCell ?_ (by first | (simp; done) | (simp; omega) | omega) _ | with_reducible refine Below.drew ?_ | with_reducible refine below_drewN ?_ _))))) ?_); rintro e w6 ⟨rfl, hb6⟩; have B6 := Lib.hid (thenB (show Below w.heap.size w _ by have B := B5.out; (repeat (first | with_reducible exact Below.refl _ _ | with_reducible assumption | with_reducible refine Below.alloc ?_ (by first | (simp; done) | (simp; omega) | omega) _ | with_reducible refine Below.setCell ?_ (by first | (simp; done) | (simp; omega) | omega) _ | with_reducible refine Below.drew ?_ | with_reducible refine below_drewN ?_ _))) hb6); have q0 := keep hb6 p0; have q1 := keep hb6 p1; have q2 := keep hb6 p2; have q3 := keep hb6 p3; have q4 := keep hb6 p4; clear hb6))
            | (go_at_call 21; ((with_reducible refine Calls.mono (HR.out _ (HA.out.below (by have B := B6.out; (repeat (first | with_reducible exact Below.refl _ _ | with_reducible assumption | with_reducible refine Below.alloc ?_ (by first | (simp; done) | (simp; omega) | omega) _ | with_reducible refine Below.setCell ?_ (by first | (simp; done) | (simp; omega) | omega) _ | with_reducible refine Below.drew ?_ | with_reducible refine below_drewN ?_ _)))) (HB.out.below (by have B := B6.out; (repeat (first | with_reducible exact Below.refl _ _ | with_reducible assumption | with_reducible refine Below.alloc ?_ (by first | (simp; done) | (simp; omega) | omega) _ | with_reducible refine Below.setCell ?_ (by first | (simp; done) | (simp; omega) | omega) _ | with_reducible refine Below.drew ?_ | with_reducible refine below_drewN ?_ _))))) ?_); rintro e w7 ⟨rfl, hb7⟩; have B7 := Lib.hid (thenB (show Below w.heap.size w _ by have B := B6.out; (repeat (first | with_reducible exact Below.refl _ _ | with_reducible assumption | with_reducible refine Below.alloc ?_ (by first | (simp; done) | (simp; omega) | omega) _ | with_reducible refine Below.setCell ?_ (by first | (simp; done) | (simp; omega) | omega) _ | with_reducible refine Below.drew ?_ | with_reducible refine below_drewN ?_ _))) hb7); clear hb7))
            | fail)
          go_ret
          exact ⟨ret_bool (by simp), B7.out⟩
    · obtain ⟨rfl, rfl⟩ := h22 ht
      have g0 : (F == 0) = false := by simp [ht]
      clear hR2 h22 ht
      go_enter Try.func4, Try.ntmps4
      go_wp2_with (first
        | (go_at_call 9; (with_reducible refine Calls.mono (awake_any _) ?_); rintro e w1 ⟨rfl, hb1⟩; have B1 := Lib.hid (thenB (show Below w.heap.size w _ by (repeat (first | with_reducible exact Below.refl _ _ | with_reducible assumption | with_reducible refine Below.alloc ?_ (by first | (simp; done) | (simp; omega) | omega) _ | with_reducible refine Below.setCell ?_ (by first | (simp; done) | (simp; omega) | omega) _ | with_reducible refine Below.drew ?_ | with_reducible refine below_drewN ?_ _))) hb1); have d0 := (hb1.cell (p := ⟨w.heap.size, 0, none⟩) (by first | (simp; done) | (simp; omega) | omega)).trans (show _ = some (.int .i64 t) by simp [go_sem]); have d1 := (hb1.cell (p := ⟨w.heap.size, 1, none⟩) (by first | (simp; done) | (simp; omega) | omega)).trans (show _ = some (.int .i64 lo) by simp [go_sem]); have d2 := (hb1.cell (p := ⟨w.heap.size, 2, none⟩) (by first | (simp; done) | (simp; omega) | omega)).trans (show _ = some (.int .i64 hi) by simp [go_sem]); have d3 := (hb1.cell (p := ⟨w.heap.size, 3, none⟩) (by first | (simp; done) | (simp; omega) | omega)).trans (show _ = some (.int .i64 st) by simp [go_sem]); have d4 := (hb1.cell (p := ⟨w.heap.size, 4, none⟩) (by first | (simp; done) | (simp; omega) | omega)).trans (show _ = some (.int .i64 ra) by simp [go_sem]); clear hb1)
        | fail)
      all_goals
        go_region_held3 (fun w' => w'.cell? ⟨w.heap.size, 0, none⟩ = some (.int .i64 t) ∧ w'.cell? ⟨w.heap.size, 1, none⟩ = some (.int .i64 lo) ∧ w'.cell? ⟨w.heap.size, 2, none⟩ = some (.int .i64 hi) ∧ w'.cell? ⟨w.heap.size, 3, none⟩ = some (.int .i64 st) ∧ w'.cell? ⟨w.heap.size, 4, none⟩ = some (.int .i64 ra)) (simp [go_sem, *]) (first
      | (go_at_call 18; ((with_reducible refine Calls.mono (copyInts_any A n c xs _ (by omega) HA0.out (HA.out.below (by have B := B1.out; (repeat (first | with_reducible exact Below.refl _ _ | with_reducible assumption | with_reducible refine Below.alloc ?_ (by first | (simp; done) | (simp; omega) | omega) _ | with_reducible refine Below.setCell ?_ (by first | (simp; done) | (simp; omega) | omega) _ | with_reducible refine Below.drew ?_ | with_reducible refine below_drewN ?_ _))))) ?_); rintro e w2 ⟨A2, c2, rfl, hA2, hb2⟩; have B2 := Lib.hid (thenB (show Below w.heap.size w _ by have B := B1.out; (repeat (first | with_reducible exact Below.refl _ _ | with_reducible assumption | with_reducible refine Below.alloc ?_ (by first | (simp; done) | (simp; omega) | omega) _ | with_reducible refine Below.setCell ?_ (by first | (simp; done) | (simp; omega) | omega) _ | with_reducible refine Below.drew ?_ | with_reducible refine below_drewN ?_ _))) hb2); have e0 := keep hb2 d0; have e1 := keep hb2 d1; have e2 := keep hb2 d2; have e3 := keep hb2 d3; have e4 := keep hb2 d4; have HA2 := Lib.hid hA2; clear hA2 hb2))
      | (go_at_call 18; ((with_reducible refine Calls.mono (copyInts_any B m c' ys _ (by omega) HB0.out (HB.out.below (by have B := B2.out; (repeat (first | with_reducible exact Below.refl _ _ | with_reducible assumption | with_reducible refine Below.alloc ?_ (by first | (simp; done) | (simp; omega) | omega) _ | with_reducible refine Below.setCell ?_ (by first | (simp; done) | (simp; omega) | omega) _ | with_reducible refine Below.drew ?_ | with_reducible refine below_drewN ?_ _))))) ?_); rintro e w3 ⟨A3, c3, rfl, hA3, hb3⟩; have B3 := Lib.hid (thenB (show Below w.heap.size w _ by have B := B2.out; (repeat (first | with_reducible exact Below.refl _ _ | with_reducible assumption | with_reducible refine Below.alloc ?_ (by first | (simp; done) | (simp; omega) | omega) _ | with_reducible refine Below.setCell ?_ (by first | (simp; done) | (simp; omega) | omega) _ | with_reducible refine Below.drew ?_ | with_reducible refine below_drewN ?_ _))) hb3); have g0 := keep hb3 e0; have g1 := keep hb3 e1; have g2 := keep hb3 e2; have g3 := keep hb3 e3; have g4 := keep hb3 e4; have HA3 := Lib.hid (HA2.out.below hb3); have HA4 := Lib.hid hA3; clear hA3 hb3))
      | (go_at_call 17; ((with_reducible refine Calls.mono (HC.out _ A2 c2 A3 c3 HA3.out HA4.out) ?_); rintro e w4 ⟨rfl, hb4⟩; have B4 := Lib.hid (thenB (show Below w.heap.size w _ by have B := B3.out; (repeat (first | with_reducible exact Below.refl _ _ | with_reducible assumption | with_reducible refine Below.alloc ?_ (by first | (simp; done) | (simp; omega) | omega) _ | with_reducible refine Below.setCell ?_ (by first | (simp; done) | (simp; omega) | omega) _ | with_reducible refine Below.drew ?_ | with_reducible refine below_drewN ?_ _))) hb4); have k0 := keep hb4 g0; have k1 := keep hb4 g1; have k2 := keep hb4 g2; have k3 := keep hb4 g3; have k4 := keep hb4 g4; clear hb4)))
        all_goals
          go_wp2_with (first
            | (go_at_call 19; ((with_reducible refine Calls.mono (HD.out _) ?_); rintro e w5 ⟨rfl, hb5⟩; have B5 := Lib.hid (thenB (show Below w.heap.size w _ by have B := B4.out; (repeat (first | with_reducible exact Below.refl _ _ | with_reducible assumption | with_reducible refine Below.alloc ?_ (by first | (simp; done) | (simp; omega) | omega) _ | with_reducible refine Below.setCell ?_ (by first | (simp; done) | (simp; omega) | omega) _ | with_reducible refine Below.drew ?_ | with_reducible refine below_drewN ?_ _))) hb5); have p0 := keep hb5 k0; have p1 := keep hb5 k1; have p2 := keep hb5 k2; have p3 := keep hb5 k3; have p4 := keep hb5 k4; clear hb5))
            | (go_at_call 20; ((with_reducible refine Calls.mono (HT.out _ (HA.out.below (by have B := B5.out; (repeat (first | with_reducible exact Below.refl _ _ | with_reducible assumption | with_reducible refine Below.alloc ?_ (by first | (simp; done) | (simp; omega) | omega) _ | with_reducible refine Below.setCell ?_ (by first | (simp; done) | (simp; omega) | omega) _ | with_reducible refine Below.drew ?_ | with_reducible refine below_drewN ?_ _))))) ?_); rintro e w6 ⟨rfl, hb6⟩; have B6 := Lib.hid (thenB (show Below w.heap.size w _ by have B := B5.out; (repeat (first | with_reducible exact Below.refl _ _ | with_reducible assumption | with_reducible refine Below.alloc ?_ (by first | (simp; done) | (simp; omega) | omega) _ | with_reducible refine Below.setCell ?_ (by first | (simp; done) | (simp; omega) | omega) _ | with_reducible refine Below.drew ?_ | with_reducible refine below_drewN ?_ _))) hb6); have q0 := keep hb6 p0; have q1 := keep hb6 p1; have q2 := keep hb6 p2; have q3 := keep hb6 p3; have q4 := keep hb6 p4; clear hb6))
            | fail)
          go_ret
          exact ⟨ret_bool (by simp), B6.out⟩
  · obtain ⟨rfl, rfl⟩ := h1 hd
    have g0 : (F == 0) = false := by simp [hd]
    clear hT h1 hR h2 hd
    go_enter Try.func4, Try.ntmps4
    go_wp2_with (first
      | (go_at_call 9; (with_reducible refine Calls.mono (awake_any _) ?_); rintro e w1 ⟨rfl, hb1⟩; have B1 := Lib.hid (thenB (show Below w.heap.size w _ by (repeat (first | with_reducible exact Below.refl _ _ | with_reducible assumption | with_reducible refine Below.alloc ?_ (by first | (simp; done) | (simp; omega) | omega) _ | with_reducible refine Below.setCell ?_ (by first | (simp; done) | (simp; omega) | omega) _ | with_reducible refine Below.drew ?_ | with_reducible refine below_drewN ?_ _))) hb1); have d0 := (hb1.cell (p := ⟨w.heap.size, 0, none⟩) (by first | (simp; done) | (simp; omega) | omega)).trans (show _ = some (.int .i64 t) by simp [go_sem]); have d1 := (hb1.cell (p := ⟨w.heap.size, 1, none⟩) (by first | (simp; done) | (simp; omega) | omega)).trans (show _ = some (.int .i64 lo) by simp [go_sem]); have d2 := (hb1.cell (p := ⟨w.heap.size, 2, none⟩) (by first | (simp; done) | (simp; omega) | omega)).trans (show _ = some (.int .i64 hi) by simp [go_sem]); have d3 := (hb1.cell (p := ⟨w.heap.size, 3, none⟩) (by first | (simp; done) | (simp; omega) | omega)).trans (show _ = some (.int .i64 st) by simp [go_sem]); have d4 := (hb1.cell (p := ⟨w.heap.size, 4, none⟩) (by first | (simp; done) | (simp; omega) | omega)).trans (show _ = some (.int .i64 ra) by simp [go_sem]); clear hb1)
      | fail)
    all_goals
      go_region_held3 (fun w' => w'.cell? ⟨w.heap.size, 0, none⟩ = some (.int .i64 t) ∧ w'.cell? ⟨w.heap.size, 1, none⟩ = some (.int .i64 lo) ∧ w'.cell? ⟨w.heap.size, 2, none⟩ = some (.int .i64 hi) ∧ w'.cell? ⟨w.heap.size, 3, none⟩ = some (.int .i64 st) ∧ w'.cell? ⟨w.heap.size, 4, none⟩ = some (.int .i64 ra)) (simp [go_sem, *]) (first
    | (go_at_call 18; ((with_reducible refine Calls.mono (copyInts_any A n c xs _ (by omega) HA0.out (HA.out.below (by have B := B1.out; (repeat (first | with_reducible exact Below.refl _ _ | with_reducible assumption | with_reducible refine Below.alloc ?_ (by first | (simp; done) | (simp; omega) | omega) _ | with_reducible refine Below.setCell ?_ (by first | (simp; done) | (simp; omega) | omega) _ | with_reducible refine Below.drew ?_ | with_reducible refine below_drewN ?_ _))))) ?_); rintro e w2 ⟨A2, c2, rfl, hA2, hb2⟩; have B2 := Lib.hid (thenB (show Below w.heap.size w _ by have B := B1.out; (repeat (first | with_reducible exact Below.refl _ _ | with_reducible assumption | with_reducible refine Below.alloc ?_ (by first | (simp; done) | (simp; omega) | omega) _ | with_reducible refine Below.setCell ?_ (by first | (simp; done) | (simp; omega) | omega) _ | with_reducible refine Below.drew ?_ | with_reducible refine below_drewN ?_ _))) hb2); have e0 := keep hb2 d0; have e1 := keep hb2 d1; have e2 := keep hb2 d2; have e3 := keep hb2 d3; have e4 := keep hb2 d4; have HA2 := Lib.hid hA2; clear hA2 hb2))
    | (go_at_call 18; ((with_reducible refine Calls.mono (copyInts_any B m c' ys _ (by omega) HB0.out (HB.out.below (by have B := B2.out; (repeat (first | with_reducible exact Below.refl _ _ | with_reducible assumption | with_reducible refine Below.alloc ?_ (by first | (simp; done) | (simp; omega) | omega) _ | with_reducible refine Below.setCell ?_ (by first | (simp; done) | (simp; omega) | omega) _ | with_reducible refine Below.drew ?_ | with_reducible refine below_drewN ?_ _))))) ?_); rintro e w3 ⟨A3, c3, rfl, hA3, hb3⟩; have B3 := Lib.hid (thenB (show Below w.heap.size w _ by have B := B2.out; (repeat (first | with_reducible exact Below.refl _ _ | with_reducible assumption | with_reducible refine Below.alloc ?_ (by first | (simp; done) | (simp; omega) | omega) _ | with_reducible refine Below.setCell ?_ (by first | (simp; done) | (simp; omega) | omega) _ | with_reducible refine Below.drew ?_ | with_reducible refine below_drewN ?_ _))) hb3); have g0 := keep hb3 e0; have g1 := keep hb3 e1; have g2 := keep hb3 e2; have g3 := keep hb3 e3; have g4 := keep hb3 e4; have HA3 := Lib.hid (HA2.out.below hb3); have HA4 := Lib.hid hA3; clear hA3 hb3))
    | (go_at_call 17; ((with_reducible refine Calls.mono (HC.out _ A2 c2 A3 c3 HA3.out HA4.out) ?_); rintro e w4 ⟨rfl, hb4⟩; have B4 := Lib.hid (thenB (show Below w.heap.size w _ by have B := B3.out; (repeat (first | with_reducible exact Below.refl _ _ | with_reducible assumption | with_reducible refine Below.alloc ?_ (by first | (simp; done) | (simp; omega) | omega) _ | with_reducible refine Below.setCell ?_ (by first | (simp; done) | (simp; omega) | omega) _ | with_reducible refine Below.drew ?_ | with_reducible refine below_drewN ?_ _))) hb4); have k0 := keep hb4 g0; have k1 := keep hb4 g1; have k2 := keep hb4 g2; have k3 := keep hb4 g3; have k4 := keep hb4 g4; clear hb4)))
      all_goals
        go_wp2_with (first
          | (go_at_call 19; ((with_reducible refine Calls.mono (HD.out _) ?_); rintro e w5 ⟨rfl, hb5⟩; have B5 := Lib.hid (thenB (show Below w.heap.size w _ by have B := B4.out; (repeat (first | with_reducible exact Below.refl _ _ | with_reducible assumption | with_reducible refine Below.alloc ?_ (by first | (simp; done) | (simp; omega) | omega) _ | with_reducible refine Below.setCell ?_ (by first | (simp; done) | (simp; omega) | omega) _ | with_reducible refine Below.drew ?_ | with_reducible refine below_drewN ?_ _))) hb5); have p0 := keep hb5 k0; have p1 := keep hb5 k1; have p2 := keep hb5 k2; have p3 := keep hb5 k3; have p4 := keep hb5 k4; clear hb5))
          | fail)
        go_ret
        exact ⟨ret_bool (by simp), B5.out⟩
theorem pathPointing_small (t lo hi st ra : Int) (A B : Option Addr) (n c m c' : Nat) (xs ys : Nat → Int) (w : World) (hA0 : A = none → n = 0 ∧ c = 0) (hB0 : B = none → m = 0 ∧ c' = 0) (hA : IA w A n xs) (hB : IA w B m ys) (hnn : n ≤ 20 ∨ 41 ≤ n ∧ n ≤ 42) (hmm : m ≤ 22) :
    Calls Try.prog 4 #[.agg #[.int .i64 t, .int .i64 lo, .int .i64 hi, .int .i64 st, .int .i64 ra], .slice A n c, .slice B m c'] w fun e w' => e = .returned (.bool true) ∧ Below w.heap.size w w' :=
  pp_walk t lo hi st ra A B n c m c' xs ys (cpV t lo hi st ra n m xs ys) (cpF t lo hi st ra n m xs ys) (driveErr t lo hi st ra) (tgErr n xs t) w hA0 hB0 hA hB hnn hmm
    (fun W A2 c2 A3 c3 h2 h3 => checkPointing_all t lo hi st ra A2 A3 n c2 m c3 xs ys W (by omega) h2 h3)
    (fun W => rdriveErr_any t lo hi st ra W)
    (fun hd W h => rtargetsErr_any t lo hi st ra A n c xs W (by omega) (drive_ok hd).1.1 (drive_ok hd).1.2 h)
    (fun hd ht W h h' => rcheck_all t lo hi st ra A B n c m c' xs ys W (by omega) (by omega) h h' ((pe_0 hd).trans ht))
    (fun hd => (by unfold cpV cpF; rw [pe_1 hd, if_neg hd, if_neg hd]; exact ⟨rfl, rfl⟩))
    (fun hd ht => (by unfold cpV cpF; rw [pe_0 hd, if_neg ht, if_neg ht]; exact ⟨rfl, rfl⟩))
set_option maxRecDepth 100000 in
set_option maxHeartbeats 2000000 in
theorem pathPointing_big (t lo hi st ra : Int) (A B : Option Addr) (n c m c' : Nat) (w : World) (hn : n ≤ 9223372036854775807) (hm : m ≤ 9223372036854775807) (hnn : ¬ (n ≤ 20 ∨ 41 ≤ n ∧ n ≤ 42) ∨ ¬ m ≤ 22) :
    Calls Try.prog 4 #[.agg #[.int .i64 t, .int .i64 lo, .int .i64 hi, .int .i64 st, .int .i64 ra], .slice A n c, .slice B m c'] w fun e w' => e = .returned (.bool true) ∧ Below w.heap.size w w' := by
  go_enter Try.func4, Try.ntmps4
  go_wp2_with (first
    | (go_at_call 9; (with_reducible refine Calls.mono (awake_any _) ?_); rintro e w1 ⟨rfl, hb1⟩; have B1 := Lib.hid (thenB (show Below w.heap.size w _ by (repeat (first | with_reducible exact Below.refl _ _ | with_reducible assumption | with_reducible refine Below.alloc ?_ (by first | (simp; done) | (simp; omega) | omega) _ | with_reducible refine Below.setCell ?_ (by first | (simp; done) | (simp; omega) | omega) _ | with_reducible refine Below.drew ?_ | with_reducible refine below_drewN ?_ _))) hb1); clear hb1)
    | fail)
  all_goals first
    | (go_ret; exact ⟨rfl, B1.out⟩)
    | (exfalso; omega)
theorem pathPointing_any (t lo hi st ra : Int) (A B : Option Addr) (n c m c' : Nat) (xs ys : Nat → Int) (w : World) (hn : n ≤ 9223372036854775807) (hm : m ≤ 9223372036854775807) (hA0 : A = none → n = 0 ∧ c = 0) (hB0 : B = none → m = 0 ∧ c' = 0) (hA : IA w A n xs) (hB : IA w B m ys) :
    Calls Try.prog 4 #[.agg #[.int .i64 t, .int .i64 lo, .int .i64 hi, .int .i64 st, .int .i64 ra], .slice A n c, .slice B m c'] w fun e w' => e = .returned (.bool true) ∧ Below w.heap.size w w' := by
  by_cases h : (n ≤ 20 ∨ 41 ≤ n ∧ n ≤ 42) ∧ m ≤ 22
  · exact pathPointing_small t lo hi st ra A B n c m c' xs ys w hA0 hB0 hA hB h.1 h.2
  · exact pathPointing_big t lo hi st ra A B n c m c' w hn hm (by omega)
end Go.Proofs.Ytolondcbllkimaa
