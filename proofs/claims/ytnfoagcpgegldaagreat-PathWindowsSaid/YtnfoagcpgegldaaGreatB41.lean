/- Helpers: the squares of distances (the document's own), the walk. -/
import Derived.Test.YtnfoagcpgegldaaGreatB40
namespace Go.Proofs.YtnfoagcpgegldaaGreat
open Go.RowKit Go.Shelf Go.Sort
attribute [local go_sem] idx3_0 idx3_1 idx3_2 old1 fro1 old2 fro2 old3 fro3 old4 fro4 old5 fro5 old6 fro6 old7 fro7 old8 fro8 old9 fro9 old10 fro10 old11 fro11 old12 fro12
def SomeSq (N1 N2 n : Int) (w : World) (e : Ending) (w' : World) : Prop :=
  ∃ A1 c1 A2 c2, e = .returned (.tuple #[.agg #[.int .i64 (sgn N1), .slice A1 (ln N1) c1], .agg #[.int .i64 (sgn N2), .slice A2 (ln N2) c2], .int .i64 n]) ∧ DR w' A1 (ln N1) c1 N1 ∧ DR w' A2 (ln N2) c2 N2 ∧ Below w.heap.size w w'
theorem v3_bd {x y z : Int} (x1 : -200000000000000 ≤ x) (x2 : x ≤ 200000000000000) (y1 : -200000000000000 ≤ y) (y2 : y ≤ 200000000000000) (z1 : -200000000000000 ≤ z) (z2 : z ≤ 200000000000000) (j : Nat) : -200000000000000 ≤ V3 x y z j ∧ V3 x y z j ≤ 200000000000000 := by
  unfold V3
  split
  · omega
  · split <;> omega
theorem dr_drew {w : World} {A : Option Addr} {n c : Nat} {N : Int} (h : DR w A n c N) : DR w.drew A n c N := ⟨h.1, fun g e => ⟨by simpa using (h.2 g e).1, fun i hi => by simpa using (h.2 g e).2 i hi⟩⟩
theorem nsum_z (g : Int → Int → Int) (x y z d : Int) : nsum g x y z d 0 = 0 := by simp [nsum]
theorem nsum_b {g : Int → Int → Int} {x y z d : Int} (hx : 0 ≤ g x d ∧ g x d ≤ 200200000000000) (hy : 0 ≤ g y d ∧ g y d ≤ 200200000000000) (hz : 0 ≤ g z d ∧ g z d ≤ 200200000000000) (j : Int) : 0 ≤ nsum g x y z d j ∧ nsum g x y z d j < bp 50 := by
  have := nsum_bd hx hy hz j
  have c := bp_mono (show 5 ≤ 50 by decide)
  have d : bp 5 = 1000000000000000000000000000000000000000000000 := by decide
  omega
def ldL : Op := .load 107 (.tmp 13)
theorem ldL_eq : ldL = .load 107 (.tmp 13) := rfl
def ldM : Op := .load 107 (.tmp 14)
theorem ldM_eq : ldM = .load 107 (.tmp 14) := rfl
attribute [local go_sem] ldL_eq ldM_eq
set_option maxRecDepth 100000 in
set_option maxHeartbeats 8000000 in
theorem rsquares_x (w : World) (A B : Trk) (s r x y z n d : Int)
    (hBT : ∀ W, VT W A s → VT W B r → Calls Tryz.prog 81 #[.agg #[A.v, .int .i64 A.d], .agg #[B.v, .int .i64 B.d], .int .i64 s, .int .i64 r] W fun e w' => e = .returned (.agg #[.int .i64 x, .int .i64 y, .int .i64 z, .int .i64 n]) ∧ Below W.heap.size W w')
    (hA : VT w A s) (hB : VT w B r) (hdA : 0 ≤ A.d ∧ A.d ≤ 1000) (hdB : 0 ≤ B.d ∧ B.d ≤ 1000) (hd : (A.d + B.d) * n = d) (dd1 : 0 ≤ d) (dd2 : d ≤ 200000000000)
    (x1 : -200000000000000 ≤ x) (x2 : x ≤ 200000000000000) (y1 : -200000000000000 ≤ y) (y2 : y ≤ 200000000000000) (z1 : -200000000000000 ≤ z) (z2 : z ≤ 200000000000000) :
    Calls Tryz.prog 60 #[.agg #[A.v, .int .i64 A.d], .agg #[B.v, .int .i64 B.d], .int .i64 s, .int .i64 r] w (SomeSq (nsum nr x y z d 3) (nsum fr x y z d 3) n w) := by
  unfold Trk.v at hBT ⊢
  have HBT := fun W a b => Lib.hid (hBT W a b)
  have HA := Lib.hid hA
  have HB := Lib.hid hB
  clear hBT hA hB
  have u1 : IntKind.i64.wrap (A.d + B.d) = A.d + B.d := IntWalk.i64_in _ (by omega)
  have u2 : IntKind.i64.wrap ((A.d + B.d) * n) = d := by rw [hd]; exact IntWalk.i64_in _ (by omega)
  clear hd
  go_enter Tryz.func60, Tryz.ntmps60
  go_wp2_with (first
    | (go_at_call 81; (with_reducible refine Calls.mono (HBT _ (HA.out.below (show Below w.heap.size w _ by (repeat (first | with_reducible exact Below.refl _ _ | with_reducible assumption | with_reducible refine Below.alloc ?_ (by first | (simp; done) | (simp; omega) | omega) _ | with_reducible refine Below.setCell ?_ (by first | (simp; done) | (simp; omega) | omega) _ | with_reducible refine Below.drew ?_ | with_reducible refine below_drewN ?_ _)))) (HB.out.below (show Below w.heap.size w _ by (repeat (first | with_reducible exact Below.refl _ _ | with_reducible assumption | with_reducible refine Below.alloc ?_ (by first | (simp; done) | (simp; omega) | omega) _ | with_reducible refine Below.setCell ?_ (by first | (simp; done) | (simp; omega) | omega) _ | with_reducible refine Below.drew ?_ | with_reducible refine below_drewN ?_ _))))).out ?_); rintro e w1 ⟨rfl, hb1⟩; have B1 := Lib.hid (thenD (show Below w.heap.size w _ by (repeat (first | with_reducible exact Below.refl _ _ | with_reducible assumption | with_reducible refine Below.alloc ?_ (by first | (simp; done) | (simp; omega) | omega) _ | with_reducible refine Below.setCell ?_ (by first | (simp; done) | (simp; omega) | omega) _ | with_reducible refine Below.drew ?_ | with_reducible refine below_drewN ?_ _))) hb1); have a1 := (hb1.cell (p := ⟨w.heap.size, 1, none⟩) (by first | (simp; done) | (simp; omega) | omega)).trans (show _ = some (.int .i64 A.d) by simp [go_sem, *]); have b1 := (hb1.cell (p := ⟨w.heap.size + 1, 1, none⟩) (by first | (simp; done) | (simp; omega) | omega)).trans (show _ = some (.int .i64 B.d) by simp [go_sem, *]); have r0 := (hb1.cell (p := ⟨w.heap.size + 1 + 1, 0, none⟩) (by first | (simp; done) | (simp; omega) | omega)).trans (show _ = some (.int .i64 0) by simp [go_sem, *]); have r1 := (hb1.cell (p := ⟨w.heap.size + 1 + 1, 1, none⟩) (by first | (simp; done) | (simp; omega) | omega)).trans (show _ = some (.slice none 0 0) by simp [go_sem, *]); have r2 := (hb1.cell (p := ⟨w.heap.size + 1 + 1 + 1, 0, none⟩) (by first | (simp; done) | (simp; omega) | omega)).trans (show _ = some (.int .i64 0) by simp [go_sem, *]); have r3 := (hb1.cell (p := ⟨w.heap.size + 1 + 1 + 1, 1, none⟩) (by first | (simp; done) | (simp; omega) | omega)).trans (show _ = some (.slice none 0 0) by simp [go_sem, *]); have f0 := (hb1.frozen (p := ⟨w.heap.size + 1 + 1, 0, none⟩) (by first | (simp; done) | (simp; omega) | omega)).trans (show _ = false by simp [go_sem, *]); have f1 := (hb1.frozen (p := ⟨w.heap.size + 1 + 1, 1, none⟩) (by first | (simp; done) | (simp; omega) | omega)).trans (show _ = false by simp [go_sem, *]); have f2 := (hb1.frozen (p := ⟨w.heap.size + 1 + 1 + 1, 0, none⟩) (by first | (simp; done) | (simp; omega) | omega)).trans (show _ = false by simp [go_sem, *]); have f3 := (hb1.frozen (p := ⟨w.heap.size + 1 + 1 + 1, 1, none⟩) (by first | (simp; done) | (simp; omega) | omega)).trans (show _ = false by simp [go_sem, *]); have hz1 := hb1.size; (try simp at hz1); (try replace hz1 := Nat.lt_of_succ_le hz1); clear hb1)
    | (go_at_call 104; have Dt := B2.out; clear Dt; (with_reducible refine Calls.mono (zero_call _) ?_); rintro e w3 ⟨A3, c3, rfl, hd3, hb3⟩; have B3 := Lib.hid (thenD (show Below w.heap.size w _ by have Bq := B2.out; have Bz := Bq.size; (repeat (first | with_reducible exact Below.refl _ _ | with_reducible assumption | with_reducible refine Below.alloc ?_ (by first | (simp; done) | (simp; omega) | omega) _ | with_reducible refine Below.setCell ?_ (by first | (simp; done) | (simp; omega) | omega) _ | with_reducible refine Below.drew ?_ | with_reducible refine below_drewN ?_ _))) hb3); have r0_ := (hb3.cell (p := ⟨w.heap.size + 1 + 1, 0, none⟩) (by first | (simp; done) | (simp; omega) | omega)).trans (show _ = some (.int .i64 0) by simp [go_sem, *]); have r1_ := (hb3.cell (p := ⟨w.heap.size + 1 + 1, 1, none⟩) (by first | (simp; done) | (simp; omega) | omega)).trans (show _ = some (.slice none 0 0) by simp [go_sem, *]); have r2_ := (hb3.cell (p := ⟨w.heap.size + 1 + 1 + 1, 0, none⟩) (by first | (simp; done) | (simp; omega) | omega)).trans (show _ = some (.int .i64 0) by simp [go_sem, *]); have r3_ := (hb3.cell (p := ⟨w.heap.size + 1 + 1 + 1, 1, none⟩) (by first | (simp; done) | (simp; omega) | omega)).trans (show _ = some (.slice none 0 0) by simp [go_sem, *]); have f0_ := (hb3.frozen (p := ⟨w.heap.size + 1 + 1, 0, none⟩) (by first | (simp; done) | (simp; omega) | omega)).trans (show _ = false by simp [go_sem, *]); have f1_ := (hb3.frozen (p := ⟨w.heap.size + 1 + 1, 1, none⟩) (by first | (simp; done) | (simp; omega) | omega)).trans (show _ = false by simp [go_sem, *]); have f2_ := (hb3.frozen (p := ⟨w.heap.size + 1 + 1 + 1, 0, none⟩) (by first | (simp; done) | (simp; omega) | omega)).trans (show _ = false by simp [go_sem, *]); have f3_ := (hb3.frozen (p := ⟨w.heap.size + 1 + 1 + 1, 1, none⟩) (by first | (simp; done) | (simp; omega) | omega)).trans (show _ = false by simp [go_sem, *]); have d0_ := (hb3.cell (p := ⟨w1.heap.size, 0, none⟩) (by first | (simp; done) | (simp; omega) | omega)).trans (show _ = some (.int .i64 x) by simp [go_sem, *]); have d1_ := (hb3.cell (p := ⟨w1.heap.size, 1, none⟩) (by first | (simp; done) | (simp; omega) | omega)).trans (show _ = some (.int .i64 y) by simp [go_sem, *]); have d2_ := (hb3.cell (p := ⟨w1.heap.size, 2, none⟩) (by first | (simp; done) | (simp; omega) | omega)).trans (show _ = some (.int .i64 z) by simp [go_sem, *]); have d3_ := (hb3.cell (p := ⟨w1.heap.size, 3, none⟩) (by first | (simp; done) | (simp; omega) | omega)).trans (show _ = some (.int .i64 n) by simp [go_sem, *]); have HD3 := Lib.hid hd3.1; have HG3 : Hid (∀ g, A3 = some ⟨g, 0, none⟩ → w2.heap.size ≤ g ∧ g < w3.heap.size) := (fun g e => ⟨hd3.2 g e, (hd3.1.2 g e).1⟩); have HD2' := Lib.hid (HD2.out.below hb3); have hz3 := hb3.size; (try simp at hz3); clear hb3 hd3)
    | (go_at_call 104; (with_reducible refine Calls.mono (zero_call _) ?_); rintro e w2 ⟨A2, c2, rfl, hd2, hb2⟩; have B2 := Lib.hid (thenD (show Below w.heap.size w _ by have Bq := B1.out; have Bz := Bq.size; (repeat (first | with_reducible exact Below.refl _ _ | with_reducible assumption | with_reducible refine Below.alloc ?_ (by first | (simp; done) | (simp; omega) | omega) _ | with_reducible refine Below.setCell ?_ (by first | (simp; done) | (simp; omega) | omega) _ | with_reducible refine Below.drew ?_ | with_reducible refine below_drewN ?_ _))) hb2); have r0 := (hb2.cell (p := ⟨w.heap.size + 1 + 1, 0, none⟩) (by first | (simp; done) | (simp; omega) | omega)).trans (show _ = some (.int .i64 0) by simp [go_sem, *]); have r1 := (hb2.cell (p := ⟨w.heap.size + 1 + 1, 1, none⟩) (by first | (simp; done) | (simp; omega) | omega)).trans (show _ = some (.slice none 0 0) by simp [go_sem, *]); have r2 := (hb2.cell (p := ⟨w.heap.size + 1 + 1 + 1, 0, none⟩) (by first | (simp; done) | (simp; omega) | omega)).trans (show _ = some (.int .i64 0) by simp [go_sem, *]); have r3 := (hb2.cell (p := ⟨w.heap.size + 1 + 1 + 1, 1, none⟩) (by first | (simp; done) | (simp; omega) | omega)).trans (show _ = some (.slice none 0 0) by simp [go_sem, *]); have f0 := (hb2.frozen (p := ⟨w.heap.size + 1 + 1, 0, none⟩) (by first | (simp; done) | (simp; omega) | omega)).trans (show _ = false by simp [go_sem, *]); have f1 := (hb2.frozen (p := ⟨w.heap.size + 1 + 1, 1, none⟩) (by first | (simp; done) | (simp; omega) | omega)).trans (show _ = false by simp [go_sem, *]); have f2 := (hb2.frozen (p := ⟨w.heap.size + 1 + 1 + 1, 0, none⟩) (by first | (simp; done) | (simp; omega) | omega)).trans (show _ = false by simp [go_sem, *]); have f3 := (hb2.frozen (p := ⟨w.heap.size + 1 + 1 + 1, 1, none⟩) (by first | (simp; done) | (simp; omega) | omega)).trans (show _ = false by simp [go_sem, *]); have d0 := (hb2.cell (p := ⟨w1.heap.size, 0, none⟩) (by first | (simp; done) | (simp; omega) | omega)).trans (show _ = some (.int .i64 x) by simp [go_sem, *]); have d1 := (hb2.cell (p := ⟨w1.heap.size, 1, none⟩) (by first | (simp; done) | (simp; omega) | omega)).trans (show _ = some (.int .i64 y) by simp [go_sem, *]); have d2 := (hb2.cell (p := ⟨w1.heap.size, 2, none⟩) (by first | (simp; done) | (simp; omega) | omega)).trans (show _ = some (.int .i64 z) by simp [go_sem, *]); have d3 := (hb2.cell (p := ⟨w1.heap.size, 3, none⟩) (by first | (simp; done) | (simp; omega) | omega)).trans (show _ = some (.int .i64 n) by simp [go_sem, *]); have HD2 := Lib.hid hd2.1; have HG2 : Hid (∀ g, A2 = some ⟨g, 0, none⟩ → w1.heap.size < g ∧ g < w2.heap.size) := (fun g e => ⟨by have := hd2.2 g e; (try simp at this); omega, (hd2.1.2 g e).1⟩); have hz2 := hb2.size; (try simp at hz2); (try replace hz2 := Nat.lt_of_succ_le hz2); clear hb2 hd2)
    | fail)
  have HRS : Hid (RS x y z n w (w.heap.size + 1 + 1) w1.heap.size w3.heap.size (w3.heap.size + 1 + 1) (nsum nr x y z d ((0 : Nat) : Int)) (nsum fr x y z d ((0 : Nat) : Int)) (((w3.alloc (.cells #[.int .i64 0, .slice A2 0 c2] 107)).alloc (.cells #[.int .i64 0, .slice A3 0 c3] 107)).alloc (.cells #[.int .i64 x, .int .i64 y, .int .i64 z] 3))) := by
    have e0 : ((0 : Nat) : Int) = 0 := rfl
    rw [e0, nsum_z, nsum_z]
    have Bq := B3.out
    have hbw : Below w3.heap.size w3 (((w3.alloc (.cells #[.int .i64 0, .slice A2 0 c2] 107)).alloc (.cells #[.int .i64 0, .slice A3 0 c3] 107)).alloc (.cells #[.int .i64 x, .int .i64 y, .int .i64 z] 3)) := by (repeat (first | with_reducible exact Below.refl _ _ | with_reducible assumption | with_reducible refine Below.alloc ?_ (by first | (simp; done) | (simp; omega) | omega) _ | with_reducible refine Below.setCell ?_ (by first | (simp; done) | (simp; omega) | omega) _ | with_reducible refine Below.drew ?_ | with_reducible refine below_drewN ?_ _))
    refine ⟨⟨by (repeat (first | with_reducible exact Below.refl _ _ | with_reducible assumption | with_reducible refine Below.alloc ?_ (by first | (simp; done) | (simp; omega) | omega) _ | with_reducible refine Below.setCell ?_ (by first | (simp; done) | (simp; omega) | omega) _ | with_reducible refine Below.drew ?_ | with_reducible refine below_drewN ?_ _)), by omega, by omega, by omega, by omega, by simp⟩, ⟨by simp [go_sem, *], by simp [go_sem, *], by simp [go_sem, *], by simp [go_sem, *]⟩, ⟨by simp [go_sem, *], by simp [go_sem, *], by simp [go_sem, *], by simp [go_sem, *]⟩, by simp [go_sem, *], ⟨by simp [go_sem, *], by simp [go_sem, *], by simp [go_sem, *]⟩, ⟨A2, c2, ⟨by rw [sgn_0]; simp [go_sem], by rw [ln_0]; simp [go_sem]⟩, ⟨by simp [go_sem], by simp [go_sem]⟩, HD2'.out.below hbw, fun g e => by have := HG2.out g e; omega⟩, ⟨A3, c3, ⟨by rw [sgn_0]; simp [go_sem], by rw [ln_0]; simp [go_sem]⟩, ⟨by simp [go_sem], by simp [go_sem]⟩, HD3.out.below hbw, fun g e => by have := HG3.out g e; omega⟩⟩
  clear HD2' HD3 HD2 HG2 HG3 B1 B2 B3
  generalize (((w3.alloc (.cells #[.int .i64 0, .slice A2 0 c2] 107)).alloc (.cells #[.int .i64 0, .slice A3 0 c3] 107)).alloc (.cells #[.int .i64 x, .int .i64 y, .int .i64 z] 3)) = W0 at *
  generalize w3.heap.size + 1 + 1 = P at *
  generalize w3.heap.size = L at *
  generalize w1.heap.size = D at *
  generalize w.heap.size + 1 + 1 = R at *
  have HV := fun j => Lib.hid (v3_bd x1 x2 y1 y2 z1 z2 j)
  have HN1 := fun j => Lib.hid (nsum_b (g := nr) (x := x) (y := y) (z := z) (d := d) (by have := nr_bd x1 x2 dd1; omega) (by have := nr_bd y1 y2 dd1; omega) (by have := nr_bd z1 z2 dd1; omega) j)
  have HN2 := fun j => Lib.hid (nsum_b (g := fr) (x := x) (y := y) (z := z) (d := d) (fr_bd x1 x2 dd1 dd2) (fr_bd y1 y2 dd1 dd2) (fr_bd z1 z2 dd1 dd2) j)
  clear x1 x2 y1 y2 z1 z2
  go_loopw [16] (fun s16 wr => ∃ k : Nat, k ≤ 3 ∧ s16 = .int .i64 k ∧ Hid (RS x y z n w R D L P (nsum nr x y z d (k : Int)) (nsum fr x y z d (k : Int)) wr)) (fun i _ => 3 - (intOf i).toNat)
  case atStart => exact ⟨0, by omega, rfl, HRS.out⟩
  case round =>
    clear HRS
    obtain ⟨k, hk, rfl, HU⟩ := hrel
    by_cases hlt : k < 3
    · have g1 : (k : Int) < 3 := by omega
      have g0 : (0 : Int) ≤ (k : Int) := by omega
      obtain ⟨⟨h1, h2, h3, h4, h5, h6⟩, _, _, D3, ⟨P0, P1, P2⟩, ⟨AL, cL, ⟨p0, p1⟩, ⟨F0, F1⟩, hdl, hgl⟩, _⟩ := HU.out
      have ltD := lt_of D3
      have nLD : L ≠ D := by omega
      have nDL := nLD.symm
      have HDL := Lib.hid hdl
      have HGL := Lib.hid hgl
      have lt0 := lt_of p0
      have pk : wr.cell? ⟨P, k, none⟩ = some (.int .i64 (V3 x y z k)) := by
        rcases (by omega : k = 0 ∨ k = 1 ∨ k = 2) with rfl | rfl | rfl
        · exact P0
        · exact P1
        · exact P2
      clear hdl hgl P0 P1 P2
      obtain ⟨v1, v2⟩ := (HV k).out
      have a1 := nr_bd v1 v2 dd1
      have a2 := fr_bd v1 v2 dd1 dd2
      have sn := siz_nn (V3 x y z k)
      have sb := siz_le v1 v2
      have hT1 : Hid (nsum nr x y z d ((k : Int) + 1) = nsum nr x y z d (k : Int) + nr (V3 x y z k) d * nr (V3 x y z k) d) := (nsum_step nr x y z d hlt).symm
      have hT2 : Hid (nsum fr x y z d ((k : Int) + 1) = nsum fr x y z d (k : Int) + fr (V3 x y z k) d * fr (V3 x y z k) d) := (nsum_step fr x y z d hlt).symm
      have b1 := (HN1 (k : Int)).out
      have b2 := (HN2 (k : Int)).out
      have hck : (((k + 1 : Nat) : Int)) = (k : Int) + 1 := by omega
      have hT1c : Hid (nsum nr x y z d (((k + 1 : Nat) : Int)) = nsum nr x y z d (k : Int) + nr (V3 x y z k) d * nr (V3 x y z k) d) := by rw [hck]; exact hT1.out
      have hT2c : Hid (nsum fr x y z d (((k + 1 : Nat) : Int)) = nsum fr x y z d (k : Int) + fr (V3 x y z k) d * fr (V3 x y z k) d) := by rw [hck]; exact hT2.out
      clear hck hT1 hT2
      have HSQ1 := fun W => Lib.hid (sq_call (nr (V3 x y z k) d) a1.1 (by omega) W)
      have HSQ2 := fun W => Lib.hid (sq_call (fr (V3 x y z k) d) a2.1 (by omega) W)
      have s1' := sq_bp (x := nr (V3 x y z k) d) a1.1 (by omega)
      have s2' := sq_bp (x := fr (V3 x y z k) d) a2.1 (by omega)
      have HAD1 := fun W A B c c' a b => Lib.hid (add_call _ _ A B c c' W b1.1 b1.2 s1'.1 s1'.2 a b)
      have HAD2 := fun W A B c c' a b => Lib.hid (add_call _ _ A B c c' W b2.1 b2.2 s2'.1 s2'.2 a b)
      clear s1' s2' b1 b2
      have w1' : IntKind.i64.wrap (siz (V3 x y z k) - d) = siz (V3 x y z k) - d := IntWalk.i64_in _ (by omega)
      have w2' : IntKind.i64.wrap (siz (V3 x y z k) + d) = fr (V3 x y z k) d := by unfold fr; exact IntWalk.i64_in _ (by unfold fr at a2; omega)
      have w3' : max 0 (siz (V3 x y z k) - d) = nr (V3 x y z k) d := rfl
      have w4' : IntKind.i64.wrap ((k : Int) + 1) = (k : Int) + 1 := IntWalk.i64_in _ (by omega)
      have HSZ := fun W => Lib.hid (bsize_any (V3 x y z k) (by omega) (by omega) W)
      clear v1 v2 a1 a2 sb
      generalize nr (V3 x y z k) d * nr (V3 x y z k) d = Q1 at *
      generalize fr (V3 x y z k) d * fr (V3 x y z k) d = Q2 at *
      generalize nr (V3 x y z k) d = q1 at *
      generalize fr (V3 x y z k) d = q2 at *
      generalize siz (V3 x y z k) = sz at *
      generalize V3 x y z k = V at *
      generalize nsum nr x y z d (k : Int) = S1 at *
      generalize nsum fr x y z d (k : Int) = S2 at *
      generalize S1 + Q1 = T1 at *
      generalize S2 + Q2 = T2 at *
      go_wp2_with (first
        | (go_at_call 105; (with_reducible refine Calls.mono (HSZ _).out ?_); rintro e y0 ⟨rfl, rfl⟩)
        | fail)
      go_cut [58] from 52 to 58 (fun _ wx => Hid (RS x y z n w R D L P T1 S2 wx))
      case first =>
        rw [← ldL_eq]
        go_region_held3 (fun w' => w'.cell? ⟨D, 3, none⟩ = some (.int .i64 n)) (simp [go_sem, *])
          (first
            | (go_at_call 75; (with_reducible refine Calls.mono (HSQ1 _).out ?_); rintro e y1 ⟨A1, c1, rfl, hd1, hb1⟩; have Y1 := Lib.hid (thenD (show Below wr.heap.size wr _ by (repeat (first | with_reducible exact Below.refl _ _ | with_reducible assumption | with_reducible refine Below.alloc ?_ (by first | (simp; done) | (simp; omega) | omega) _ | with_reducible refine Below.setCell ?_ (by first | (simp; done) | (simp; omega) | omega) _ | with_reducible refine Below.drew ?_ | with_reducible refine below_drewN ?_ _))) hb1); have HY1 := Lib.hid hd1.1; have GY1 : Hid (∀ g, A1 = some ⟨g, 0, none⟩ → wr.heap.size ≤ g) := (fun g e => by have := hd1.2 g e; (try simp at this); omega); have t0 := (hb1.cell (p := ⟨L, 0, none⟩) (by first | (simp; done) | (simp; omega) | omega)).trans (show _ = some (.int .i64 (sgn S1)) by simp [go_sem, *]); have t1 := (hb1.cell (p := ⟨L, 1, none⟩) (by first | (simp; done) | (simp; omega) | omega)).trans (show _ = some (.slice AL (ln S1) cL) by simp [go_sem, *]); have t2 := (hb1.frozen (p := ⟨L, 0, none⟩) (by first | (simp; done) | (simp; omega) | omega)).trans (show _ = false by simp [go_sem, *]); have t3 := (hb1.frozen (p := ⟨L, 1, none⟩) (by first | (simp; done) | (simp; omega) | omega)).trans (show _ = false by simp [go_sem, *]); have t4 := (hb1.cell (p := ⟨D, 3, none⟩) (by first | (simp; done) | (simp; omega) | omega)).trans (show _ = some (.int .i64 n) by simp [go_sem, *]); clear hb1 hd1)
            | (go_at_call 106; (with_reducible refine Calls.mono (HAD1 _ AL A1 cL c1 (HDL.out.below Y1.out) HY1.out).out ?_); rintro e y2 ⟨A2, c2, rfl, hd2, hg2, hb2⟩; have Y2 := Lib.hid (thenD Y1.out hb2); have HY2 := Lib.hid hd2; have GY2 : Hid (∀ g, A2 = some ⟨g, 0, none⟩ → wr.heap.size ≤ g ∨ A2 = AL) := (fun g e => (hg2 g e).elim (fun q => .inl (by have := Y1.out.size; omega)) (fun q => q.elim (fun q => .inr q) (fun q => .inl (GY1.out g (q ▸ e))))); have v0 := keep hb2 t0; have v1 := keep hb2 t1; have v2 := (hb2.frozen (p := ⟨L, 0, none⟩) (lt_of t0)).trans t2; have v3 := (hb2.frozen (p := ⟨L, 1, none⟩) (lt_of t1)).trans t3; have v4 := keep hb2 t4; clear hb2 hd2 hg2)
            | fail)
        all_goals
          go_wp2_with fail
          go_meet
          exact (HU.out.keep Y2.out).set1 HY2.out (fun g e => by
            rcases GY2.out g e with q | q
            · omega
            · exact HGL.out g (q ▸ e))
      case rest =>
        go_wp2_with fail
        clear HU HDL HGL p0 p1 F0 F1 lt0 D3 ltD nLD nDL h1 h2 h3 h4 h5 h6
        generalize wc = wr at *
        have HU := hcut
        clear hcut
        obtain ⟨⟨h1, h2, h3, h4, h5, h6⟩, _, _, D3, _, _, ⟨AL, cL, ⟨p0, p1⟩, ⟨F0, F1⟩, hdl, hgl⟩⟩ := HU.out
        have HDL := Lib.hid hdl
        have HGL := Lib.hid hgl
        have lt0 := lt_of p0
        have ltD := lt_of D3
        have nLD : L + 1 ≠ D := by omega
        have nDL := nLD.symm
        clear hdl hgl
        rw [← ldM_eq]
        go_region_held3 (fun w' => w'.cell? ⟨D, 3, none⟩ = some (.int .i64 n)) (simp [go_sem, *])
          (first
            | (go_at_call 75; (with_reducible refine Calls.mono (HSQ2 _).out ?_); rintro e y1 ⟨A1, c1, rfl, hd1, hb1⟩; have Y1 := Lib.hid (thenD (show Below wr.heap.size wr _ by (repeat (first | with_reducible exact Below.refl _ _ | with_reducible assumption | with_reducible refine Below.alloc ?_ (by first | (simp; done) | (simp; omega) | omega) _ | with_reducible refine Below.setCell ?_ (by first | (simp; done) | (simp; omega) | omega) _ | with_reducible refine Below.drew ?_ | with_reducible refine below_drewN ?_ _))) hb1); have HY1 := Lib.hid hd1.1; have GY1 : Hid (∀ g, A1 = some ⟨g, 0, none⟩ → wr.heap.size ≤ g) := (fun g e => by have := hd1.2 g e; (try simp at this); omega); have t0 := (hb1.cell (p := ⟨(L + 1), 0, none⟩) (by first | (simp; done) | (simp; omega) | omega)).trans (show _ = some (.int .i64 (sgn S2)) by simp [go_sem, *]); have t1 := (hb1.cell (p := ⟨(L + 1), 1, none⟩) (by first | (simp; done) | (simp; omega) | omega)).trans (show _ = some (.slice AL (ln S2) cL) by simp [go_sem, *]); have t2 := (hb1.frozen (p := ⟨(L + 1), 0, none⟩) (by first | (simp; done) | (simp; omega) | omega)).trans (show _ = false by simp [go_sem, *]); have t3 := (hb1.frozen (p := ⟨(L + 1), 1, none⟩) (by first | (simp; done) | (simp; omega) | omega)).trans (show _ = false by simp [go_sem, *]); have t4 := (hb1.cell (p := ⟨D, 3, none⟩) (by first | (simp; done) | (simp; omega) | omega)).trans (show _ = some (.int .i64 n) by simp [go_sem, *]); clear hb1 hd1)
            | (go_at_call 106; (with_reducible refine Calls.mono (HAD2 _ AL A1 cL c1 (HDL.out.below Y1.out) HY1.out).out ?_); rintro e y2 ⟨A2, c2, rfl, hd2, hg2, hb2⟩; have Y2 := Lib.hid (thenD Y1.out hb2); have HY2 := Lib.hid hd2; have GY2 : Hid (∀ g, A2 = some ⟨g, 0, none⟩ → wr.heap.size ≤ g ∨ A2 = AL) := (fun g e => (hg2 g e).elim (fun q => .inl (by have := Y1.out.size; omega)) (fun q => q.elim (fun q => .inr q) (fun q => .inl (GY1.out g (q ▸ e))))); have v0 := keep hb2 t0; have v1 := keep hb2 t1; have v2 := (hb2.frozen (p := ⟨(L + 1), 0, none⟩) (lt_of t0)).trans t2; have v3 := (hb2.frozen (p := ⟨(L + 1), 1, none⟩) (lt_of t1)).trans t3; have v4 := keep hb2 t4; clear hb2 hd2 hg2)
            | fail)
        all_goals
          go_wp2_with fail
          go_roundw
          case rel => exact ⟨k + 1, by omega, by go_num, by rw [hT1c.out, hT2c.out]; exact (HU.out.keep Y2.out).set2 HY2.out (fun g e => (GY2.out g e).elim (fun q => by omega) (fun q => HGL.out g (q ▸ e)))⟩
          case measure => simp [intOf]; omega
    · obtain rfl : k = 3 := by omega
      obtain ⟨⟨h1, h2, h3, h4, h5, h6⟩, ⟨r0, r1, r2, r3⟩, ⟨f0, f1, f2, f3⟩, d3, _, ⟨AL, cL, ⟨p0, p1⟩, _, hdl, hgl⟩, ⟨AM, cM, ⟨m0, m1⟩, _, hdm, hgm⟩⟩ := HU.out
      have FL0 : Hid (∀ (W : World) (o : Nat) (v : Value), DR W AL (ln (nsum nr x y z d 3)) cL (nsum nr x y z d 3) → DR (W.setCell ⟨R, o, none⟩ v) AL (ln (nsum nr x y z d 3)) cL (nsum nr x y z d 3)) := fun W o v h => dr_ne h (fun g e => (hgl g e).1) o v
      have FL1 : Hid (∀ (W : World) (o : Nat) (v : Value), DR W AL (ln (nsum nr x y z d 3)) cL (nsum nr x y z d 3) → DR (W.setCell ⟨R + 1, o, none⟩ v) AL (ln (nsum nr x y z d 3)) cL (nsum nr x y z d 3)) := fun W o v h => dr_ne h (fun g e => (hgl g e).2.1) o v
      have FM0 : Hid (∀ (W : World) (o : Nat) (v : Value), DR W AM (ln (nsum fr x y z d 3)) cM (nsum fr x y z d 3) → DR (W.setCell ⟨R, o, none⟩ v) AM (ln (nsum fr x y z d 3)) cM (nsum fr x y z d 3)) := fun W o v h => dr_ne h (fun g e => (hgm g e).1) o v
      have FM1 : Hid (∀ (W : World) (o : Nat) (v : Value), DR W AM (ln (nsum fr x y z d 3)) cM (nsum fr x y z d 3) → DR (W.setCell ⟨R + 1, o, none⟩ v) AM (ln (nsum fr x y z d 3)) cM (nsum fr x y z d 3)) := fun W o v h => dr_ne h (fun g e => (hgm g e).2.1) o v
      have HDL := Lib.hid hdl
      have HDM := Lib.hid hdm
      have n1 : R ≠ L := by omega
      have n2 : R ≠ L + 1 := by omega
      have n3 : R + 1 ≠ L := by omega
      have n4 : R + 1 ≠ L + 1 := by omega
      have n5 : R ≠ D := by omega
      have n6 : R + 1 ≠ D := by omega
      have n7 : R ≠ R + 1 := by omega
      have n1' := n1.symm
      have n2' := n2.symm
      have n3' := n3.symm
      have n4' := n4.symm
      have n5' := n5.symm
      have n6' := n6.symm
      have n7' := n7.symm
      have n8 : ¬ R = L := n1
      have hLR : ¬ L = R := n1'
      have n9 : ¬ R + 1 = L := n3
      have tR := lt_of r0
      have tR1 := lt_of r2
      clear hdl hgl hdm hgm HU HV HN1 HN2
      have c3 : ((3 : Nat) : Int) = 3 := rfl
      rw [c3] at p0 p1 m0 m1
      generalize nsum nr x y z d 3 = T1 at *
      generalize nsum fr x y z d 3 = T2 at *
      go_wp2_with fail
      go_region_held3 (fun w' => w'.cell? ⟨L, 0, none⟩ = some (.int .i64 (sgn T1)) ∧ w'.cell? ⟨L, 1, none⟩ = some (.slice AL (ln T1) cL) ∧ w'.cell? ⟨L + 1, 0, none⟩ = some (.int .i64 (sgn T2)) ∧ w'.cell? ⟨L + 1, 1, none⟩ = some (.slice AM (ln T2) cM) ∧ w'.cell? ⟨D, 3, none⟩ = some (.int .i64 n)) (simp [go_sem, *]) (first | fail)
      all_goals
        go_wp2_with fail
        refine bodyPost_ret (v := .tuple #[.agg #[.int .i64 (sgn T1), .slice AL (ln T1) cL], .agg #[.int .i64 (sgn T2), .slice AM (ln T2) cM], .int .i64 n]) (by simp [results, Tryz.results60, go_sem, *]) rfl ⟨AL, cL, AM, cM, rfl, ?_, ?_, ?_⟩
        · repeat (first | exact HDL.out | with_reducible refine dr_drew ?_ | with_reducible refine FL0.out _ _ _ ?_ | with_reducible refine FL1.out _ _ _ ?_)
        · repeat (first | exact HDM.out | with_reducible refine dr_drew ?_ | with_reducible refine FM0.out _ _ _ ?_ | with_reducible refine FM1.out _ _ _ ?_)
        · (repeat (first | with_reducible exact Below.refl _ _ | with_reducible assumption | with_reducible refine Below.alloc ?_ (by first | (simp; done) | (simp; omega) | omega) _ | with_reducible refine Below.setCell ?_ (by first | (simp; done) | (simp; omega) | omega) _ | with_reducible refine Below.drew ?_ | with_reducible refine below_drewN ?_ _))
/-- The squares of two tracks at two of their times. -/
theorem squares_any (w : World) (A B : Trk) (s r : Int) (hA : VT w A s) (hB : VT w B r) :
    Calls Tryz.prog 60 #[.agg #[A.v, .int .i64 A.d], .agg #[B.v, .int .i64 B.d], .int .i64 s, .int .i64 r] w (SomeSq (sqN A B s r) (sqF A B s r) (vn (A.p s) (B.p r)) w) := by
  have hda := (valid_of hA.2.1).2.2.2
  have hdb := (valid_of hB.2.1).2.2.2
  obtain ⟨n, x, y, z, d⟩ := v_bd (plc_ok hA.2.1 hA.2.2) (plc_ok hB.2.1 hB.2.2) hda hdb
  exact rsquares_x w A B s r _ _ _ _ (vd A.d B.d (A.p s) (B.p r)) (fun W a b => rbetween_any A B s r W a b) hA hB hda hdb rfl d.1 d.2 x.1 x.2 y.1 y.2 z.1 z.2
end Go.Proofs.YtnfoagcpgegldaaGreat
