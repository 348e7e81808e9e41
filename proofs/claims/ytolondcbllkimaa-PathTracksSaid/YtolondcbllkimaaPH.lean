/- Helpers: the law PathTracks returns true for every input. -/
import Derived.Test.YtolondcbllkimaaPG
import Derived.Test.YtolondcbllkimaaPC
namespace Go.Proofs.Ytolondcbllkimaa
open Go.RowKit Go.Shelf Go.Sort
attribute [local go_sem] idx3_0 idx3_1 idx3_2 old1 fro1 old2 fro2 old3 fro3 old4 fro4 old5 fro5 old6 fro6 old7 fro7 old8 fro8 old9 fro9 old10 fro10 old11 fro11 old12 fro12
set_option maxRecDepth 100000 in
set_option maxHeartbeats 800000 in
theorem few_any (A : Option Addr) (n c : Nat) (d : Int) (w : World) (_ : n ≤ 9223372036854775807) :
    Calls Try.prog 10 #[.agg #[.slice A n c, .int .i64 d]] w fun e w' => e = .returned (.bool (decide ((n : Int) ≤ 14))) ∧ Below w.heap.size w w' := by
  go_enter Try.func10, Try.ntmps10
  go_wp2_with fail
  go_ret
  exact ⟨rfl, by (repeat (first | with_reducible exact Below.refl _ _ | with_reducible assumption | with_reducible refine Below.alloc ?_ (by first | (simp; done) | (simp; omega) | omega) _ | with_reducible refine Below.setCell ?_ (by first | (simp; done) | (simp; omega) | omega) _ | with_reducible refine Below.drew ?_ | with_reducible refine below_drewN ?_ _))⟩
theorem KA.bel {w W : World} {A : Option Addr} {n : Nat} {k : Nat → Knot} (h : KA w A n k) (hb : Below w.heap.size w W) : KA W A n k := fun h0 => by
  obtain ⟨b, off, e, hk⟩ := h h0
  exact ⟨b, off, e, hk.below hb hk.1⟩
set_option maxRecDepth 100000 in
set_option maxHeartbeats 2000000 in
theorem pt_walk (A : Option Addr) (n c : Nat) (d time : Int) (k : Nat → Knot) (I E F T b1 b2 b3 b4 b5 b6 : Int) (w : World) (hA0 : A = none → n = 0 ∧ c = 0) (hA : KA w A n k) (hn : n ≤ 14)
    (hCT : ∀ W A2 c2, KA W A2 n k → Calls Try.prog 11 #[.agg #[.slice A2 n c2, .int .i64 d]] W fun e w' => e = .returned (.tuple #[.int .i64 I, .int .i64 E]) ∧ Below W.heap.size W w')
    (hBX : ∀ W A2 c2, KA W A2 n k → Calls Try.prog 13 #[.agg #[.slice A2 n c2, .int .i64 d], .int .i64 time] W fun e w' => e = .returned (.tuple #[.agg #[.int .i64 b1, .int .i64 b2, .int .i64 b3, .int .i64 b4, .int .i64 b5, .int .i64 b6], .int .i64 F]) ∧ Below W.heap.size W w')
    (hRC : ∀ W, KA W A n k → Calls Try.prog 14 #[.agg #[.slice A n c, .int .i64 d]] W fun e w' => e = .returned (.tuple #[.int .i64 I, .int .i64 E]) ∧ Below W.heap.size W w')
    (hTE : E = 0 → ∀ W, KA W A n k → Calls Try.prog 15 #[.agg #[.slice A n c, .int .i64 d], .int .i64 time] W fun e w' => e = .returned (.int .i64 T) ∧ Below W.heap.size W w')
    (hRB : E = 0 → T = 0 → ∀ W, KA W A n k → Calls Try.prog 16 #[.agg #[.slice A n c, .int .i64 d], .int .i64 time] W fun e w' => e = .returned (.agg #[.int .i64 b1, .int .i64 b2, .int .i64 b3, .int .i64 b4, .int .i64 b5, .int .i64 b6]) ∧ Below W.heap.size W w')
    (h1 : E ≠ 0 → F = E ∧ b1 = 0 ∧ b2 = 0 ∧ b3 = 0 ∧ b4 = 0 ∧ b5 = 0 ∧ b6 = 0) (h2 : E = 0 → T ≠ 0 → F = T ∧ b1 = 0 ∧ b2 = 0 ∧ b3 = 0 ∧ b4 = 0 ∧ b5 = 0 ∧ b6 = 0) (h3 : E = 0 → T = 0 → F = 0) :
    Calls Try.prog 3 #[.agg #[.slice A n c, .int .i64 d], .int .i64 time] w fun e w' => e = .returned (.bool true) ∧ Below w.heap.size w w' := by
  have HA := Lib.hid hA
  have HA0 := Lib.hid hA0
  have HCT := Lib.hid hCT
  have HBX := Lib.hid hBX
  have HRC := Lib.hid hRC
  have p0 : (n : Int) ≤ 14 := by omega
  clear hA hA0 hCT hBX hRC
  by_cases hE : E = 0
  · have hTE2 := hTE hE
    have hRB2 := hRB hE
    have h22 := h2 hE
    have h33 := h3 hE
    subst hE
    clear hTE hRB h1 h2 h3
    have HTE := Lib.hid hTE2
    clear hTE2
    by_cases hT : T = 0
    · have HRB := Lib.hid (hRB2 hT)
      obtain rfl := h33 hT
      subst hT
      clear hRB2 h22 h33
      go_enter Try.func3, Try.ntmps3
      go_wp2_with (first
              | (go_at_call 9; (with_reducible refine Calls.mono (awake_any _) ?_); rintro e w1 ⟨rfl, hb1⟩; have B1 := Lib.hid (thenB (show Below w.heap.size w _ by (repeat (first | with_reducible exact Below.refl _ _ | with_reducible assumption | with_reducible refine Below.alloc ?_ (by first | (simp; done) | (simp; omega) | omega) _ | with_reducible refine Below.setCell ?_ (by first | (simp; done) | (simp; omega) | omega) _ | with_reducible refine Below.drew ?_ | with_reducible refine below_drewN ?_ _))) hb1); have d0 := (hb1.cell (p := ⟨w.heap.size, 0, none⟩) (by first | (simp; done) | (simp; omega) | omega)).trans (show _ = some (.slice A n c) by simp [go_sem]); have d1 := (hb1.cell (p := ⟨w.heap.size, 1, none⟩) (by first | (simp; done) | (simp; omega) | omega)).trans (show _ = some (.int .i64 d) by simp [go_sem]); clear hb1)
              | (go_at_call 10; (with_reducible refine Calls.mono (few_any A n c d _ (by omega)) ?_); rintro e w2 ⟨rfl, hb2⟩; have B2 := Lib.hid (thenB B1.out hb2); have e0 := keep hb2 d0; have e1 := keep hb2 d1; clear hb2)
              | (go_at_call 12; (with_reducible refine Calls.mono (copyT_any A n c d k _ (by omega) HA0.out (HA.out.bel B2.out)) ?_); rintro e w3 ⟨A3, c3, rfl, hA3, hb3⟩; have B3 := Lib.hid (thenB B2.out hb3); have g0 := keep hb3 e0; have g1 := keep hb3 e1; have HA3 := Lib.hid hA3; clear hb3 hA3)
              | (go_at_call 11; (with_reducible refine Calls.mono (HCT.out _ A3 c3 HA3.out) ?_); rintro e w4 ⟨rfl, hb4⟩; have B4 := Lib.hid (thenB B3.out hb4); have k0 := keep hb4 g0; have k1 := keep hb4 g1; clear hb4)
              | (go_at_call 12; (with_reducible refine Calls.mono (copyT_any A n c d k _ (by omega) HA0.out (HA.out.bel B4.out)) ?_); rintro e w5 ⟨A5, c5, rfl, hA5, hb5⟩; have B5 := Lib.hid (thenB B4.out hb5); have l0 := keep hb5 k0; have l1 := keep hb5 k1; have HA5 := Lib.hid hA5; clear hb5 hA5)
              | (go_at_call 13; (with_reducible refine Calls.mono (HBX.out _ A5 c5 HA5.out) ?_); rintro e w6 ⟨rfl, hb6⟩; have B6 := Lib.hid (thenB B5.out hb6); have m0 := keep hb6 l0; have m1 := keep hb6 l1; clear hb6)
              | (go_at_call 14; (with_reducible refine Calls.mono (HRC.out _ (HA.out.bel (by have B := B6.out; have Bz := B.size; (repeat (first | with_reducible exact Below.refl _ _ | with_reducible assumption | with_reducible refine Below.alloc ?_ (by first | (simp; done) | (simp; omega) | omega) _ | with_reducible refine Below.setCell ?_ (by first | (simp; done) | (simp; omega) | omega) _ | with_reducible refine Below.drew ?_ | with_reducible refine below_drewN ?_ _))))) ?_); rintro e w7 ⟨rfl, hb7⟩; have B7 := Lib.hid (thenB (show Below w.heap.size w _ by have B := B6.out; have Bz := B.size; (repeat (first | with_reducible exact Below.refl _ _ | with_reducible assumption | with_reducible refine Below.alloc ?_ (by first | (simp; done) | (simp; omega) | omega) _ | with_reducible refine Below.setCell ?_ (by first | (simp; done) | (simp; omega) | omega) _ | with_reducible refine Below.drew ?_ | with_reducible refine below_drewN ?_ _))) hb7); have X0 := (hb7.cell (p := ⟨w6.heap.size, 0, none⟩) (by first | (simp; done) | (simp; omega) | omega)).trans (show _ = some (.int .i64 b1) by simp [go_sem]); have X1 := (hb7.cell (p := ⟨w6.heap.size, 1, none⟩) (by first | (simp; done) | (simp; omega) | omega)).trans (show _ = some (.int .i64 b2) by simp [go_sem]); have X2 := (hb7.cell (p := ⟨w6.heap.size, 2, none⟩) (by first | (simp; done) | (simp; omega) | omega)).trans (show _ = some (.int .i64 b3) by simp [go_sem]); have X3 := (hb7.cell (p := ⟨w6.heap.size, 3, none⟩) (by first | (simp; done) | (simp; omega) | omega)).trans (show _ = some (.int .i64 b4) by simp [go_sem]); have X4 := (hb7.cell (p := ⟨w6.heap.size, 4, none⟩) (by first | (simp; done) | (simp; omega) | omega)).trans (show _ = some (.int .i64 b5) by simp [go_sem]); have X5 := (hb7.cell (p := ⟨w6.heap.size, 5, none⟩) (by first | (simp; done) | (simp; omega) | omega)).trans (show _ = some (.int .i64 b6) by simp [go_sem]); have n0 := keep hb7 (keepA (.cells #[.int .i64 b1, .int .i64 b2, .int .i64 b3, .int .i64 b4, .int .i64 b5, .int .i64 b6] 34) m0); have n1 := keep hb7 (keepA (.cells #[.int .i64 b1, .int .i64 b2, .int .i64 b3, .int .i64 b4, .int .i64 b5, .int .i64 b6] 34) m1); clear hb7)
              | (go_at_call 15; (with_reducible refine Calls.mono (HTE.out _ (HA.out.bel B7.out)) ?_); rintro e w8 ⟨rfl, hb8⟩; have B8 := Lib.hid (thenB B7.out hb8); have o0 := keep hb8 n0; have o1 := keep hb8 n1; have Y0 := keep hb8 X0; have Y1 := keep hb8 X1; have Y2 := keep hb8 X2; have Y3 := keep hb8 X3; have Y4 := keep hb8 X4; have Y5 := keep hb8 X5; clear hb8)
              | fail)
      all_goals
        go_region_held3 (fun w' => w'.cell? ⟨w6.heap.size, 0, none⟩ = some (.int .i64 b1) ∧ w'.cell? ⟨w6.heap.size, 1, none⟩ = some (.int .i64 b2) ∧ w'.cell? ⟨w6.heap.size, 2, none⟩ = some (.int .i64 b3) ∧ w'.cell? ⟨w6.heap.size, 3, none⟩ = some (.int .i64 b4) ∧ w'.cell? ⟨w6.heap.size, 4, none⟩ = some (.int .i64 b5) ∧ w'.cell? ⟨w6.heap.size, 5, none⟩ = some (.int .i64 b6) ∧ w'.cell? ⟨w.heap.size, 0, none⟩ = some (.slice A n c) ∧ w'.cell? ⟨w.heap.size, 1, none⟩ = some (.int .i64 d)) (simp [go_sem, *])
          (first
            | (go_at_call 16; (with_reducible refine Calls.mono (HRB.out _ (HA.out.bel (by have B := B8.out; (repeat (first | with_reducible exact Below.refl _ _ | with_reducible assumption | with_reducible refine Below.alloc ?_ (by first | (simp; done) | (simp; omega) | omega) _ | with_reducible refine Below.setCell ?_ (by first | (simp; done) | (simp; omega) | omega) _ | with_reducible refine Below.drew ?_ | with_reducible refine below_drewN ?_ _))))) ?_); rintro e w9 ⟨rfl, hb9⟩; have B9 := Lib.hid (thenB (show Below w.heap.size w _ by have B := B8.out; (repeat (first | with_reducible exact Below.refl _ _ | with_reducible assumption | with_reducible refine Below.alloc ?_ (by first | (simp; done) | (simp; omega) | omega) _ | with_reducible refine Below.setCell ?_ (by first | (simp; done) | (simp; omega) | omega) _ | with_reducible refine Below.drew ?_ | with_reducible refine below_drewN ?_ _))) hb9); have Z0 := keep hb9 Y0; have Z1 := keep hb9 Y1; have Z2 := keep hb9 Y2; have Z3 := keep hb9 Y3; have Z4 := keep hb9 Y4; have Z5 := keep hb9 Y5; have z0 := keep hb9 o0; have z1 := keep hb9 o1; clear hb9))
        all_goals
          go_wp2_with fail
          go_ret
          exact ⟨ret_bool (by simp), B9.out⟩

    · obtain ⟨rfl, rfl, rfl, rfl, rfl, rfl, rfl⟩ := h22 hT
      have g0 : (F == 0) = false := by simp [hT]
      have g1 : (F != 0) = true := by simp [hT]
      clear hRB2 h22 h33 hT
      go_enter Try.func3, Try.ntmps3
      go_wp2_with (first
              | (go_at_call 9; (with_reducible refine Calls.mono (awake_any _) ?_); rintro e w1 ⟨rfl, hb1⟩; have B1 := Lib.hid (thenB (show Below w.heap.size w _ by (repeat (first | with_reducible exact Below.refl _ _ | with_reducible assumption | with_reducible refine Below.alloc ?_ (by first | (simp; done) | (simp; omega) | omega) _ | with_reducible refine Below.setCell ?_ (by first | (simp; done) | (simp; omega) | omega) _ | with_reducible refine Below.drew ?_ | with_reducible refine below_drewN ?_ _))) hb1); have d0 := (hb1.cell (p := ⟨w.heap.size, 0, none⟩) (by first | (simp; done) | (simp; omega) | omega)).trans (show _ = some (.slice A n c) by simp [go_sem]); have d1 := (hb1.cell (p := ⟨w.heap.size, 1, none⟩) (by first | (simp; done) | (simp; omega) | omega)).trans (show _ = some (.int .i64 d) by simp [go_sem]); clear hb1)
              | (go_at_call 10; (with_reducible refine Calls.mono (few_any A n c d _ (by omega)) ?_); rintro e w2 ⟨rfl, hb2⟩; have B2 := Lib.hid (thenB B1.out hb2); have e0 := keep hb2 d0; have e1 := keep hb2 d1; clear hb2)
              | (go_at_call 12; (with_reducible refine Calls.mono (copyT_any A n c d k _ (by omega) HA0.out (HA.out.bel B2.out)) ?_); rintro e w3 ⟨A3, c3, rfl, hA3, hb3⟩; have B3 := Lib.hid (thenB B2.out hb3); have g0 := keep hb3 e0; have g1 := keep hb3 e1; have HA3 := Lib.hid hA3; clear hb3 hA3)
              | (go_at_call 11; (with_reducible refine Calls.mono (HCT.out _ A3 c3 HA3.out) ?_); rintro e w4 ⟨rfl, hb4⟩; have B4 := Lib.hid (thenB B3.out hb4); have k0 := keep hb4 g0; have k1 := keep hb4 g1; clear hb4)
              | (go_at_call 12; (with_reducible refine Calls.mono (copyT_any A n c d k _ (by omega) HA0.out (HA.out.bel B4.out)) ?_); rintro e w5 ⟨A5, c5, rfl, hA5, hb5⟩; have B5 := Lib.hid (thenB B4.out hb5); have l0 := keep hb5 k0; have l1 := keep hb5 k1; have HA5 := Lib.hid hA5; clear hb5 hA5)
              | (go_at_call 13; (with_reducible refine Calls.mono (HBX.out _ A5 c5 HA5.out) ?_); rintro e w6 ⟨rfl, hb6⟩; have B6 := Lib.hid (thenB B5.out hb6); have m0 := keep hb6 l0; have m1 := keep hb6 l1; clear hb6)
              | (go_at_call 14; (with_reducible refine Calls.mono (HRC.out _ (HA.out.bel (by have B := B6.out; have Bz := B.size; (repeat (first | with_reducible exact Below.refl _ _ | with_reducible assumption | with_reducible refine Below.alloc ?_ (by first | (simp; done) | (simp; omega) | omega) _ | with_reducible refine Below.setCell ?_ (by first | (simp; done) | (simp; omega) | omega) _ | with_reducible refine Below.drew ?_ | with_reducible refine below_drewN ?_ _))))) ?_); rintro e w7 ⟨rfl, hb7⟩; have B7 := Lib.hid (thenB (show Below w.heap.size w _ by have B := B6.out; have Bz := B.size; (repeat (first | with_reducible exact Below.refl _ _ | with_reducible assumption | with_reducible refine Below.alloc ?_ (by first | (simp; done) | (simp; omega) | omega) _ | with_reducible refine Below.setCell ?_ (by first | (simp; done) | (simp; omega) | omega) _ | with_reducible refine Below.drew ?_ | with_reducible refine below_drewN ?_ _))) hb7); have X0 := (hb7.cell (p := ⟨w6.heap.size, 0, none⟩) (by first | (simp; done) | (simp; omega) | omega)).trans (show _ = some (.int .i64 0) by simp [go_sem]); have X1 := (hb7.cell (p := ⟨w6.heap.size, 1, none⟩) (by first | (simp; done) | (simp; omega) | omega)).trans (show _ = some (.int .i64 0) by simp [go_sem]); have X2 := (hb7.cell (p := ⟨w6.heap.size, 2, none⟩) (by first | (simp; done) | (simp; omega) | omega)).trans (show _ = some (.int .i64 0) by simp [go_sem]); have X3 := (hb7.cell (p := ⟨w6.heap.size, 3, none⟩) (by first | (simp; done) | (simp; omega) | omega)).trans (show _ = some (.int .i64 0) by simp [go_sem]); have X4 := (hb7.cell (p := ⟨w6.heap.size, 4, none⟩) (by first | (simp; done) | (simp; omega) | omega)).trans (show _ = some (.int .i64 0) by simp [go_sem]); have X5 := (hb7.cell (p := ⟨w6.heap.size, 5, none⟩) (by first | (simp; done) | (simp; omega) | omega)).trans (show _ = some (.int .i64 0) by simp [go_sem]); have n0 := keep hb7 (keepA (.cells #[.int .i64 0, .int .i64 0, .int .i64 0, .int .i64 0, .int .i64 0, .int .i64 0] 34) m0); have n1 := keep hb7 (keepA (.cells #[.int .i64 0, .int .i64 0, .int .i64 0, .int .i64 0, .int .i64 0, .int .i64 0] 34) m1); clear hb7)
              | (go_at_call 15; (with_reducible refine Calls.mono (HTE.out _ (HA.out.bel B7.out)) ?_); rintro e w8 ⟨rfl, hb8⟩; have B8 := Lib.hid (thenB B7.out hb8); have o0 := keep hb8 n0; have o1 := keep hb8 n1; have Y0 := keep hb8 X0; have Y1 := keep hb8 X1; have Y2 := keep hb8 X2; have Y3 := keep hb8 X3; have Y4 := keep hb8 X4; have Y5 := keep hb8 X5; clear hb8)
              | fail)
      all_goals
        go_ret
        exact ⟨ret_bool (by simp), B8.out⟩

  · obtain ⟨rfl, rfl, rfl, rfl, rfl, rfl, rfl⟩ := h1 hE
    have g0 : (F == 0) = false := by simp [hE]
    have g1 : (F != 0) = true := by simp [hE]
    clear hTE hRB h2 h3 h1 hE
    go_enter Try.func3, Try.ntmps3
    go_wp2_with (first
            | (go_at_call 9; (with_reducible refine Calls.mono (awake_any _) ?_); rintro e w1 ⟨rfl, hb1⟩; have B1 := Lib.hid (thenB (show Below w.heap.size w _ by (repeat (first | with_reducible exact Below.refl _ _ | with_reducible assumption | with_reducible refine Below.alloc ?_ (by first | (simp; done) | (simp; omega) | omega) _ | with_reducible refine Below.setCell ?_ (by first | (simp; done) | (simp; omega) | omega) _ | with_reducible refine Below.drew ?_ | with_reducible refine below_drewN ?_ _))) hb1); have d0 := (hb1.cell (p := ⟨w.heap.size, 0, none⟩) (by first | (simp; done) | (simp; omega) | omega)).trans (show _ = some (.slice A n c) by simp [go_sem]); have d1 := (hb1.cell (p := ⟨w.heap.size, 1, none⟩) (by first | (simp; done) | (simp; omega) | omega)).trans (show _ = some (.int .i64 d) by simp [go_sem]); clear hb1)
            | (go_at_call 10; (with_reducible refine Calls.mono (few_any A n c d _ (by omega)) ?_); rintro e w2 ⟨rfl, hb2⟩; have B2 := Lib.hid (thenB B1.out hb2); have e0 := keep hb2 d0; have e1 := keep hb2 d1; clear hb2)
            | (go_at_call 12; (with_reducible refine Calls.mono (copyT_any A n c d k _ (by omega) HA0.out (HA.out.bel B2.out)) ?_); rintro e w3 ⟨A3, c3, rfl, hA3, hb3⟩; have B3 := Lib.hid (thenB B2.out hb3); have g0 := keep hb3 e0; have g1 := keep hb3 e1; have HA3 := Lib.hid hA3; clear hb3 hA3)
            | (go_at_call 11; (with_reducible refine Calls.mono (HCT.out _ A3 c3 HA3.out) ?_); rintro e w4 ⟨rfl, hb4⟩; have B4 := Lib.hid (thenB B3.out hb4); have k0 := keep hb4 g0; have k1 := keep hb4 g1; clear hb4)
            | (go_at_call 12; (with_reducible refine Calls.mono (copyT_any A n c d k _ (by omega) HA0.out (HA.out.bel B4.out)) ?_); rintro e w5 ⟨A5, c5, rfl, hA5, hb5⟩; have B5 := Lib.hid (thenB B4.out hb5); have l0 := keep hb5 k0; have l1 := keep hb5 k1; have HA5 := Lib.hid hA5; clear hb5 hA5)
            | (go_at_call 13; (with_reducible refine Calls.mono (HBX.out _ A5 c5 HA5.out) ?_); rintro e w6 ⟨rfl, hb6⟩; have B6 := Lib.hid (thenB B5.out hb6); have m0 := keep hb6 l0; have m1 := keep hb6 l1; clear hb6)
            | (go_at_call 14; (with_reducible refine Calls.mono (HRC.out _ (HA.out.bel (by have B := B6.out; have Bz := B.size; (repeat (first | with_reducible exact Below.refl _ _ | with_reducible assumption | with_reducible refine Below.alloc ?_ (by first | (simp; done) | (simp; omega) | omega) _ | with_reducible refine Below.setCell ?_ (by first | (simp; done) | (simp; omega) | omega) _ | with_reducible refine Below.drew ?_ | with_reducible refine below_drewN ?_ _))))) ?_); rintro e w7 ⟨rfl, hb7⟩; have B7 := Lib.hid (thenB (show Below w.heap.size w _ by have B := B6.out; have Bz := B.size; (repeat (first | with_reducible exact Below.refl _ _ | with_reducible assumption | with_reducible refine Below.alloc ?_ (by first | (simp; done) | (simp; omega) | omega) _ | with_reducible refine Below.setCell ?_ (by first | (simp; done) | (simp; omega) | omega) _ | with_reducible refine Below.drew ?_ | with_reducible refine below_drewN ?_ _))) hb7); have X0 := (hb7.cell (p := ⟨w6.heap.size, 0, none⟩) (by first | (simp; done) | (simp; omega) | omega)).trans (show _ = some (.int .i64 0) by simp [go_sem]); have X1 := (hb7.cell (p := ⟨w6.heap.size, 1, none⟩) (by first | (simp; done) | (simp; omega) | omega)).trans (show _ = some (.int .i64 0) by simp [go_sem]); have X2 := (hb7.cell (p := ⟨w6.heap.size, 2, none⟩) (by first | (simp; done) | (simp; omega) | omega)).trans (show _ = some (.int .i64 0) by simp [go_sem]); have X3 := (hb7.cell (p := ⟨w6.heap.size, 3, none⟩) (by first | (simp; done) | (simp; omega) | omega)).trans (show _ = some (.int .i64 0) by simp [go_sem]); have X4 := (hb7.cell (p := ⟨w6.heap.size, 4, none⟩) (by first | (simp; done) | (simp; omega) | omega)).trans (show _ = some (.int .i64 0) by simp [go_sem]); have X5 := (hb7.cell (p := ⟨w6.heap.size, 5, none⟩) (by first | (simp; done) | (simp; omega) | omega)).trans (show _ = some (.int .i64 0) by simp [go_sem]); have n0 := keep hb7 (keepA (.cells #[.int .i64 0, .int .i64 0, .int .i64 0, .int .i64 0, .int .i64 0, .int .i64 0] 34) m0); have n1 := keep hb7 (keepA (.cells #[.int .i64 0, .int .i64 0, .int .i64 0, .int .i64 0, .int .i64 0, .int .i64 0] 34) m1); clear hb7)
            | fail)
    all_goals
      go_ret
      exact ⟨ret_bool (by simp), B7.out⟩

theorem boxErr_e {A : TV} {time : Int} (h : A.err ≠ 0) : boxErr A time = A.err := by unfold boxErr; rw [if_neg h]
theorem boxErr_v {A : TV} {time : Int} (h : A.err = 0) : boxErr A time = if outside time A.k A.n then 2 else 0 := by unfold boxErr; rw [if_pos h]
theorem boxAt_err (n c : Nat) (k : Nat → Knot) (d time : Int) (W : World) (A : Option Addr) (F : Int) (hn : n ≤ 9223372036854775807) (hA : KA W A n k) (hF : boxErr ⟨A, n, c, k, d⟩ time = F) (h0 : F ≠ 0) :
    Calls Try.prog 13 #[.agg #[.slice A n c, .int .i64 d], .int .i64 time] W fun e w' => e = .returned (.tuple #[.agg #[.int .i64 0, .int .i64 0, .int .i64 0, .int .i64 0, .int .i64 0, .int .i64 0], .int .i64 F]) ∧ Below W.heap.size W w' :=
  (boxAt_x A n c k d time W ⟨hA, hn⟩).mono fun e w' ⟨hb, he⟩ => ⟨by rw [he, if_neg (by rw [hF]; exact h0), hF], hb⟩
theorem boxAt_ok (n c : Nat) (k : Nat → Knot) (d time : Int) (W : World) (A : Option Addr) (hn : n ≤ 9223372036854775807) (hA : KA W A n k) (hF : boxErr ⟨A, n, c, k, d⟩ time = 0) :
    Calls Try.prog 13 #[.agg #[.slice A n c, .int .i64 d], .int .i64 time] W fun e w' => e = .returned (.tuple #[boxV (plc k n time) d, .int .i64 0]) ∧ Below W.heap.size W w' :=
  (boxAt_x A n c k d time W ⟨hA, hn⟩).mono fun e w' ⟨hb, he⟩ => ⟨by rw [he, if_pos hF, hF], hb⟩
theorem pathTracks_few (A : Option Addr) (n c : Nat) (d time : Int) (k : Nat → Knot) (w : World) (hA0 : A = none → n = 0 ∧ c = 0) (hA : KA w A n k) (hn : n ≤ 14) :
    Calls Try.prog 3 #[.agg #[.slice A n c, .int .i64 d], .int .i64 time] w fun e w' => e = .returned (.bool true) ∧ Below w.heap.size w w' := by
  have hCT := fun W A2 c2 (h : KA W A2 n k) => checkTrack_any A2 n c2 d W k (by omega) h
  have hRC := fun W (h : KA W A n k) => rcheckTrack_any A n c d W k (by omega) h
  by_cases hE : (ctRes k n d).2 = 0
  · have hE2 : ctErr k n d = 0 := hE
    obtain ⟨hn0, hn12, _, _⟩ := valid_of hE2
    have hTE : ∀ W, KA W A n k → Calls Try.prog 15 #[.agg #[.slice A n c, .int .i64 d], .int .i64 time] W fun e w' => e = .returned (.int .i64 (if outside time k n then 2 else 0)) ∧ Below W.heap.size W w' := by
      intro W h
      obtain ⟨b, off, rfl, hk⟩ := h hn0
      exact rtimeErr_any b off n c d time W k hn0 (by omega) hk
    have hb : ∀ A2 c2, boxErr ⟨A2, n, c2, k, d⟩ time = if outside time k n then 2 else 0 := fun A2 c2 => boxErr_v (A := ⟨A2, n, c2, k, d⟩) hE2
    cases ho : outside time k n
    · rw [ho] at hTE hb
      refine pt_walk A n c d time k (ctRes k n d).1 (ctRes k n d).2 0 0 _ _ _ _ _ _ w hA0 hA hn hCT (fun W A2 c2 h => boxAt_ok n c2 k d time W A2 (by omega) h (hb A2 c2)) hRC (fun _ => hTE) (fun _ _ W h => ?_) (fun h => absurd hE h) (fun _ h => absurd rfl h) (fun _ _ => rfl)
      obtain ⟨b, off, rfl, hk⟩ := h hn0
      exact rboxAt_any b off n c d time W k hk hE2 ho
    · rw [ho] at hTE hb
      exact pt_walk A n c d time k (ctRes k n d).1 (ctRes k n d).2 2 2 0 0 0 0 0 0 w hA0 hA hn hCT (fun W A2 c2 h => boxAt_err n c2 k d time W A2 2 (by omega) h (hb A2 c2) (by decide)) hRC (fun _ => hTE) (fun _ h => absurd h (by decide)) (fun h => absurd hE h) (fun _ _ => ⟨rfl, rfl, rfl, rfl, rfl, rfl, rfl⟩) (fun _ h => absurd h (by decide))
  · exact pt_walk A n c d time k (ctRes k n d).1 (ctRes k n d).2 (ctRes k n d).2 0 0 0 0 0 0 0 w hA0 hA hn hCT (fun W A2 c2 h => boxAt_err n c2 k d time W A2 (ctRes k n d).2 (by omega) h (boxErr_e (A := ⟨A2, n, c2, k, d⟩) hE) hE) hRC (fun h => absurd h hE) (fun h => absurd h hE) (fun _ => ⟨rfl, rfl, rfl, rfl, rfl, rfl, rfl⟩) (fun h => absurd h hE) (fun h => absurd h hE)
set_option maxRecDepth 100000 in
set_option maxHeartbeats 2000000 in
theorem pathTracks_many (A : Option Addr) (n c : Nat) (d time : Int) (w : World) (hn : n ≤ 9223372036854775807) (h : 14 < n) :
    Calls Try.prog 3 #[.agg #[.slice A n c, .int .i64 d], .int .i64 time] w fun e w' => e = .returned (.bool true) ∧ Below w.heap.size w w' := by
  have HF := fun W => Lib.hid (few_any A n c d W hn)
  rw [show decide ((n : Int) ≤ 14) = false by simp; omega] at HF
  go_enter Try.func3, Try.ntmps3
  go_wp2_with (first
    | (go_at_call 9; (with_reducible refine Calls.mono (awake_any _) ?_); rintro e w1 ⟨rfl, hb1⟩; have B1 := Lib.hid (thenB (show Below w.heap.size w _ by (repeat (first | with_reducible exact Below.refl _ _ | with_reducible assumption | with_reducible refine Below.alloc ?_ (by first | (simp; done) | (simp; omega) | omega) _ | with_reducible refine Below.setCell ?_ (by first | (simp; done) | (simp; omega) | omega) _ | with_reducible refine Below.drew ?_ | with_reducible refine below_drewN ?_ _))) hb1); have d0 := (hb1.cell (p := ⟨w.heap.size, 0, none⟩) (by first | (simp; done) | (simp; omega) | omega)).trans (show _ = some (.slice A n c) by simp [go_sem]); have d1 := (hb1.cell (p := ⟨w.heap.size, 1, none⟩) (by first | (simp; done) | (simp; omega) | omega)).trans (show _ = some (.int .i64 d) by simp [go_sem]); clear hb1)
    | (go_at_call 10; (with_reducible refine Calls.mono (HF _).out ?_); rintro e w2 ⟨rfl, hb2⟩; have B2 := Lib.hid (thenB B1.out hb2); clear hb2)
    | fail)
  go_ret
  exact ⟨rfl, B2.out⟩
theorem pathTracks_any (A : Option Addr) (n c : Nat) (d time : Int) (k : Nat → Knot) (w : World) (hn : n ≤ 9223372036854775807) (hA0 : A = none → n = 0 ∧ c = 0) (hA : KA w A n k) :
    Calls Try.prog 3 #[.agg #[.slice A n c, .int .i64 d], .int .i64 time] w fun e w' => e = .returned (.bool true) ∧ Below w.heap.size w w' := by
  by_cases h : n ≤ 14
  · exact pathTracks_few A n c d time k w hA0 hA h
  · exact pathTracks_many A n c d time w hn (by omega)
end Go.Proofs.Ytolondcbllkimaa
