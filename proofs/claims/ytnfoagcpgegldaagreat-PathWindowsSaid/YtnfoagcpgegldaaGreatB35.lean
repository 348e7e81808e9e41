/- Helpers: numbers of any size by their values: added, subtracted, compared (base.Wide). -/
import Derived.Test.YtnfoagcpgegldaaGreatB34
namespace Go.Proofs.YtnfoagcpgegldaaGreat
open Go.RowKit Go.Shelf Go.Sort
attribute [local go_sem] idx3_0 idx3_1 idx3_2 old1 fro1 old2 fro2 old3 fro3 old4 fro4 old5 fro5 old6 fro6 old7 fro7 old8 fro8 old9 fro9 old10 fro10 old11 fro11 old12 fro12
theorem siz_p {x : Int} (h : 0 ≤ x) : siz x = x := by unfold siz; omega
theorem siz_n {x : Int} (h : x ≤ 0) : siz x = -x := by unfold siz; omega
theorem sgn_neg (x : Int) : sgn (-x) = -sgn x := by
  rcases Int.lt_trichotomy x 0 with h | h | h
  · rw [sgn_n h, sgn_p (by omega)]; rfl
  · subst h; rfl
  · rw [sgn_p h, sgn_n (by omega)]
theorem siz_neg2 (x : Int) : siz (-x) = siz x := by unfold siz; omega
theorem sgn_bd (x : Int) : -1 ≤ sgn x ∧ sgn x ≤ 1 := by
  rcases Int.lt_trichotomy x 0 with h | h | h
  · rw [sgn_n h]; decide
  · subst h; decide
  · rw [sgn_p h]; decide
/-- What an addition leaves. -/
def SomeSum (N : Int) (A B : Option Addr) (w : World) (e : Ending) (w' : World) : Prop :=
  ∃ A' c2, e = .returned (WV N A' c2) ∧ DR w' A' (ln (siz N)) c2 (siz N) ∧ (∀ g, A' = some ⟨g, 0, none⟩ → w.heap.size ≤ g ∨ A' = A ∨ A' = B) ∧ Below w.heap.size w w'
theorem WideAdd_any (N M : Int) (A B : Option Addr) (c c' : Nat) (w : World) (hN : siz N < bp 50) (hM : siz M < bp 50) (hA : DR w A (ln (siz N)) c (siz N)) (hB : DR w B (ln (siz M)) c' (siz M)) :
    Calls Tryz.prog 106 #[WV N A c, WV M B c'] w (SomeSum (N + M) A B w) := by
  have nN := siz_nn N
  have nM := siz_nn M
  by_cases h0 : N = 0
  · subst h0
    refine (wadd_l (sgn M) A B _ c _ c' w).mono ?_
    rintro e w' ⟨rfl, hb⟩
    rw [Int.zero_add]
    exact ⟨B, c', rfl, hB.below hb, fun g _ => .inr (.inr rfl), hb⟩
  by_cases h1 : M = 0
  · subst h1
    have hs : sgn N ≠ 0 := by
      rcases Int.lt_trichotomy N 0 with h | h | h
      · rw [sgn_n h]; decide
      · exact absurd h h0
      · rw [sgn_p h]; decide
    refine (wadd_r (sgn N) A B _ c _ c' w hs).mono ?_
    rintro e w' ⟨rfl, hb⟩
    rw [Int.add_zero]
    exact ⟨A, c, rfl, hA.below hb, fun g _ => .inr (.inl rfl), hb⟩
  have s0 : sgn N ≠ 0 := by
    rcases Int.lt_trichotomy N 0 with h | h | h
    · rw [sgn_n h]; decide
    · exact absurd h h0
    · rw [sgn_p h]; decide
  have s1 : sgn M ≠ 0 := by
    rcases Int.lt_trichotomy M 0 with h | h | h
    · rw [sgn_n h]; decide
    · exact absurd h h1
    · rw [sgn_p h]; decide
  by_cases hst : sgn N = sgn M
  · refine (wadd_s (sgn N) (sgn M) A B c c' (siz N) (siz M) w nN hN nM hM hA hB s0 hst).mono ?_
    rintro e w' ⟨A', c2, rfl, ⟨hd, hg⟩, hb⟩
    have hz : siz N + siz M = siz (N + M) ∧ sgn (N + M) = sgn N ∧ siz N + siz M ≠ 0 := by
      rcases Int.lt_trichotomy N 0 with h | h | h
      · rcases Int.lt_trichotomy M 0 with q | q | q
        · rw [siz_n (by omega), siz_n (by omega), siz_n (by omega), sgn_n h, sgn_n (by omega)]
          exact ⟨by omega, rfl, by omega⟩
        · exact absurd q h1
        · rw [sgn_n h, sgn_p q] at hst; cases hst
      · exact absurd h h0
      · rcases Int.lt_trichotomy M 0 with q | q | q
        · rw [sgn_p h, sgn_n q] at hst; cases hst
        · exact absurd q h1
        · rw [siz_p (by omega), siz_p (by omega), siz_p (by omega), sgn_p h, sgn_p (by omega)]
          exact ⟨by omega, rfl, by omega⟩
    rw [if_neg hz.2.2]
    refine ⟨A', c2, ?_, by rw [← hz.1]; exact hd, fun g e => .inl (by have := hg g e; omega), hb⟩
    unfold WV
    rw [hz.1, hz.2.1]
  rcases Int.lt_trichotomy (siz M) (siz N) with hl | hl | hl
  · refine (wadd_g (sgn N) (sgn M) A B c c' (siz N) (siz M) w nN hN nM hM hA hB s0 s1 hst hl).mono ?_
    rintro e w' ⟨A', c2, rfl, ⟨hd, hg⟩, hb⟩
    have hz : siz N - siz M = siz (N + M) ∧ sgn (N + M) = sgn N ∧ siz N - siz M ≠ 0 := by
      rcases Int.lt_trichotomy N 0 with h | h | h
      · rcases Int.lt_trichotomy M 0 with q | q | q
        · rw [sgn_n h, sgn_n q] at hst; exact absurd rfl hst
        · exact absurd q h1
        · rw [siz_n (x := N) (by omega), siz_p (x := M) (by omega)] at hl ⊢
          rw [siz_n (x := N + M) (by omega), sgn_n h, sgn_n (by omega)]
          exact ⟨by omega, rfl, by omega⟩
      · exact absurd h h0
      · rcases Int.lt_trichotomy M 0 with q | q | q
        · rw [siz_p (x := N) (by omega), siz_n (x := M) (by omega)] at hl ⊢
          rw [siz_p (x := N + M) (by omega), sgn_p h, sgn_p (by omega)]
          exact ⟨by omega, rfl, by omega⟩
        · exact absurd q h1
        · rw [sgn_p h, sgn_p q] at hst; exact absurd rfl hst
    rw [if_neg hz.2.2]
    refine ⟨A', c2, ?_, by rw [← hz.1]; exact hd, fun g e => .inl (by have := hg g e; omega), hb⟩
    unfold WV
    rw [hz.1, hz.2.1]
  · refine (wadd_e (sgn N) (sgn M) A B c c' (siz N) (siz M) w nN hN nM hM hA hB s0 s1 hst hl.symm).mono ?_
    rintro e w' ⟨rfl, hb⟩
    have hz : N + M = 0 := by
      rcases Int.lt_trichotomy N 0 with h | h | h
      · rcases Int.lt_trichotomy M 0 with q | q | q
        · rw [sgn_n h, sgn_n q] at hst; exact absurd rfl hst
        · exact absurd q h1
        · rw [siz_n (x := N) (by omega), siz_p (x := M) (by omega)] at hl; omega
      · exact absurd h h0
      · rcases Int.lt_trichotomy M 0 with q | q | q
        · rw [siz_p (x := N) (by omega), siz_n (x := M) (by omega)] at hl; omega
        · exact absurd q h1
        · rw [sgn_p h, sgn_p q] at hst; exact absurd rfl hst
    rw [hz]
    exact ⟨none, 0, rfl, ⟨.inl ⟨rfl, rfl, rfl⟩, fun g e => by cases e⟩, fun g e => (by cases e), hb⟩
  · refine (wadd_m (sgn N) (sgn M) A B c c' (siz N) (siz M) w nN hN nM hM hA hB s0 s1 hst hl).mono ?_
    rintro e w' ⟨A', c2, rfl, ⟨hd, hg⟩, hb⟩
    have hz : siz M - siz N = siz (N + M) ∧ sgn (N + M) = sgn M ∧ siz M - siz N ≠ 0 := by
      rcases Int.lt_trichotomy N 0 with h | h | h
      · rcases Int.lt_trichotomy M 0 with q | q | q
        · rw [sgn_n h, sgn_n q] at hst; exact absurd rfl hst
        · exact absurd q h1
        · rw [siz_n (x := N) (by omega), siz_p (x := M) (by omega)] at hl ⊢
          rw [siz_p (x := N + M) (by omega), sgn_p q, sgn_p (by omega)]
          exact ⟨by omega, rfl, by omega⟩
      · exact absurd h h0
      · rcases Int.lt_trichotomy M 0 with q | q | q
        · rw [siz_p (x := N) (by omega), siz_n (x := M) (by omega)] at hl ⊢
          rw [siz_n (x := N + M) (by omega), sgn_n q, sgn_n (by omega)]
          exact ⟨by omega, rfl, by omega⟩
        · exact absurd q h1
        · rw [sgn_p h, sgn_p q] at hst; exact absurd rfl hst
    rw [if_neg hz.2.2]
    refine ⟨A', c2, ?_, by rw [← hz.1]; exact hd, fun g e => .inl (by have := hg g e; omega), hb⟩
    unfold WV
    rw [hz.1, hz.2.1]
set_option maxRecDepth 100000 in
set_option maxHeartbeats 4000000 in
theorem wideSub_any (N M : Int) (A B : Option Addr) (c c' : Nat) (w : World) (hN : siz N < bp 50) (hM : siz M < bp 50) (hA : DR w A (ln (siz N)) c (siz N)) (hB : DR w B (ln (siz M)) c' (siz M)) :
    Calls Tryz.prog 109 #[WV N A c, WV M B c'] w fun e w' => ∃ A' n2 c2, e = .returned (.agg #[.int .i64 (sgn (N - M)), .slice A' n2 c2]) ∧ Below w.heap.size w w' := by
  have HADD : ∀ W, DR W A (ln (siz N)) c (siz N) → DR W B (ln (siz M)) c' (siz M) → Hid (Calls Tryz.prog 106 #[.agg #[.int .i64 (sgn N), .slice A (ln (siz N)) c], .agg #[.int .i64 (-sgn M), .slice B (ln (siz M)) c']] W fun e w' => ∃ A' n2 c2, e = .returned (.agg #[.int .i64 (sgn (N - M)), .slice A' n2 c2]) ∧ Below W.heap.size W w') := by
    intro W a b
    have := WideAdd_any N (-M) A B c c' W hN (by rw [siz_neg2]; exact hM) a (by rw [siz_neg2]; exact b)
    unfold WV at this
    rw [siz_neg2, sgn_neg] at this
    refine this.mono ?_
    rintro e w' ⟨A', c2, rfl, _, _, hb⟩
    unfold WV
    rw [show N + -M = N - M by omega]
    exact ⟨A', _, c2, rfl, hb⟩
  have hs := sgn_bd M
  have HA := Lib.hid hA
  have HB := Lib.hid hB
  clear hA hB hN hM
  unfold WV
  generalize sgn N = s at *
  generalize sgn M = t at *
  generalize sgn (N - M) = u at *
  generalize ln (siz N) = n at *
  generalize ln (siz M) = m at *
  obtain ⟨hs1, hs2⟩ := hs
  go_enter Tryz.func109, Tryz.ntmps109
  go_wp2_with fail
  go_region_held3 (fun w' => w'.cell? ⟨w.heap.size, 0, none⟩ = some (.int .i64 s) ∧ w'.cell? ⟨w.heap.size, 1, none⟩ = some (.slice A n c) ∧ w'.cell? ⟨w.heap.size + 1, 0, none⟩ = some (.int .i64 t) ∧ w'.cell? ⟨w.heap.size + 1, 1, none⟩ = some (.slice B m c')) (simp [go_sem, *])
    (first
      | (go_at_call 145; (with_reducible refine Calls.mono (wideNeg_any t B m c' _ hs1 hs2) ?_); rintro e w1 ⟨rfl, hb1⟩; have B1 := Lib.hid (thenD (show Below w.heap.size w _ by (repeat (first | with_reducible exact Below.refl _ _ | with_reducible assumption | with_reducible refine Below.alloc ?_ (by first | (simp; done) | (simp; omega) | omega) _ | with_reducible refine Below.setCell ?_ (by first | (simp; done) | (simp; omega) | omega) _ | with_reducible refine Below.drew ?_ | with_reducible refine below_drewN ?_ _))) hb1); have p0 := (hb1.cell (p := ⟨w.heap.size, 0, none⟩) (by first | (simp; done) | (simp; omega) | omega)).trans (show _ = some (.int .i64 s) by simp [go_sem]); have p1 := (hb1.cell (p := ⟨w.heap.size, 1, none⟩) (by first | (simp; done) | (simp; omega) | omega)).trans (show _ = some (.slice A n c) by simp [go_sem]); have p2 := (hb1.cell (p := ⟨w.heap.size + 1, 0, none⟩) (by first | (simp; done) | (simp; omega) | omega)).trans (show _ = some (.int .i64 t) by simp [go_sem]); have p3 := (hb1.cell (p := ⟨w.heap.size + 1, 1, none⟩) (by first | (simp; done) | (simp; omega) | omega)).trans (show _ = some (.slice B m c') by simp [go_sem]); have p4 := (hb1.cell (p := ⟨w.heap.size + 1 + 1, 0, none⟩) (by first | (simp; done) | (simp; omega) | omega)).trans (show _ = some (.int .i64 0) by simp [go_sem]); have p5 := (hb1.cell (p := ⟨w.heap.size + 1 + 1, 1, none⟩) (by first | (simp; done) | (simp; omega) | omega)).trans (show _ = some (.slice none 0 0) by simp [go_sem]); have f0 := (hb1.frozen (p := ⟨w.heap.size + 1 + 1, 0, none⟩) (by first | (simp; done) | (simp; omega) | omega)).trans (show _ = false by simp [go_sem]); have f1 := (hb1.frozen (p := ⟨w.heap.size + 1 + 1, 1, none⟩) (by first | (simp; done) | (simp; omega) | omega)).trans (show _ = false by simp [go_sem]); clear hb1)
      | (go_at_call 106; (with_reducible refine Calls.mono (HADD _ (HA.out.below (show Below w.heap.size w _ by have B := B1.out; (repeat (first | with_reducible exact Below.refl _ _ | with_reducible assumption | with_reducible refine Below.alloc ?_ (by first | (simp; done) | (simp; omega) | omega) _ | with_reducible refine Below.setCell ?_ (by first | (simp; done) | (simp; omega) | omega) _ | with_reducible refine Below.drew ?_ | with_reducible refine below_drewN ?_ _)))) (HB.out.below (show Below w.heap.size w _ by have B := B1.out; (repeat (first | with_reducible exact Below.refl _ _ | with_reducible assumption | with_reducible refine Below.alloc ?_ (by first | (simp; done) | (simp; omega) | omega) _ | with_reducible refine Below.setCell ?_ (by first | (simp; done) | (simp; omega) | omega) _ | with_reducible refine Below.drew ?_ | with_reducible refine below_drewN ?_ _))))).out ?_); rintro e w2 ⟨A2, n2, c2, rfl, hb2⟩; have B2 := Lib.hid (thenD (show Below w.heap.size w _ by have B := B1.out; (repeat (first | with_reducible exact Below.refl _ _ | with_reducible assumption | with_reducible refine Below.alloc ?_ (by first | (simp; done) | (simp; omega) | omega) _ | with_reducible refine Below.setCell ?_ (by first | (simp; done) | (simp; omega) | omega) _ | with_reducible refine Below.drew ?_ | with_reducible refine below_drewN ?_ _))) hb2); have q0 := keep hb2 p0; have q1 := keep hb2 p1; have q2 := keep hb2 p2; have q3 := keep hb2 p3; have q4 := keep hb2 p4; have q5 := keep hb2 p5; have h0 := (hb2.frozen (p := ⟨w.heap.size + 1 + 1, 0, none⟩) (lt_of p4)).trans f0; have h1 := (hb2.frozen (p := ⟨w.heap.size + 1 + 1, 1, none⟩) (lt_of p5)).trans f1; clear hb2)
      | fail)
  all_goals
    go_wp2_with fail
    refine bodyPost_ret (v := .agg #[.int .i64 u, .slice A2 n2 c2]) (by simp [results, Tryz.results109, go_sem, *]) rfl ⟨_, _, _, rfl, ?_⟩
    have B := B2.out
    (repeat (first | with_reducible exact Below.refl _ _ | with_reducible assumption | with_reducible refine Below.alloc ?_ (by first | (simp; done) | (simp; omega) | omega) _ | with_reducible refine Below.setCell ?_ (by first | (simp; done) | (simp; omega) | omega) _ | with_reducible refine Below.drew ?_ | with_reducible refine below_drewN ?_ _))
set_option maxRecDepth 100000 in
set_option maxHeartbeats 2000000 in
theorem wideCmp_any (N M : Int) (A B : Option Addr) (c c' : Nat) (w : World) (hN : siz N < bp 50) (hM : siz M < bp 50) (hA : DR w A (ln (siz N)) c (siz N)) (hB : DR w B (ln (siz M)) c' (siz M)) :
    Calls Tryz.prog 74 #[WV N A c, WV M B c'] w fun e w' => e = .returned (.int .i64 (sgn (N - M))) ∧ Below w.heap.size w w' := by
  have HS := fun W a b => Lib.hid (wideSub_any N M A B c c' W hN hM a b)
  have HA := Lib.hid hA
  have HB := Lib.hid hB
  clear hA hB hN hM
  unfold WV at *
  generalize sgn N = s at *
  generalize sgn M = t at *
  generalize sgn (N - M) = u at *
  generalize ln (siz N) = n at *
  generalize ln (siz M) = m at *
  have hfd : ∀ (A1 : Option Addr) (n1 c1 : Nat) (W : World), (Instr.field 107 (.agg #[.int .i64 u, .slice A1 n1 c1]) 0).run Tryz.prog W = .ok (.int .i64 u) W := fun _ _ _ _ => by kernel_rfl
  go_enter Tryz.func74, Tryz.ntmps74
  go_wp2_with (first
    | (go_at_call 109; go_loud ((with_reducible refine Calls.mono (HS _ (HA.out.below (show Below w.heap.size w _ by (repeat (first | with_reducible exact Below.refl _ _ | with_reducible assumption | with_reducible refine Below.alloc ?_ (by first | (simp; done) | (simp; omega) | omega) _ | with_reducible refine Below.setCell ?_ (by first | (simp; done) | (simp; omega) | omega) _ | with_reducible refine Below.drew ?_ | with_reducible refine below_drewN ?_ _)))) (HB.out.below (show Below w.heap.size w _ by (repeat (first | with_reducible exact Below.refl _ _ | with_reducible assumption | with_reducible refine Below.alloc ?_ (by first | (simp; done) | (simp; omega) | omega) _ | with_reducible refine Below.setCell ?_ (by first | (simp; done) | (simp; omega) | omega) _ | with_reducible refine Below.drew ?_ | with_reducible refine below_drewN ?_ _))))).out ?_); rintro e w1 ⟨A1, n1, c1, rfl, hb1⟩; have B1 := Lib.hid (thenD (show Below w.heap.size w _ by (repeat (first | with_reducible exact Below.refl _ _ | with_reducible assumption | with_reducible refine Below.alloc ?_ (by first | (simp; done) | (simp; omega) | omega) _ | with_reducible refine Below.setCell ?_ (by first | (simp; done) | (simp; omega) | omega) _ | with_reducible refine Below.drew ?_ | with_reducible refine below_drewN ?_ _))) hb1); clear hb1))
    | fail)
  go_ret
  exact ⟨rfl, B1.out⟩
end Go.Proofs.YtnfoagcpgegldaaGreat
namespace Go.Proofs.YtnfoagcpgegldaaGreat
open Go.RowKit Go.Shelf Go.Sort
attribute [local go_sem] idx3_0 idx3_1 idx3_2 old1 fro1 old2 fro2 old3 fro3 old4 fro4 old5 fro5 old6 fro6 old7 fro7 old8 fro8 old9 fro9 old10 fro10 old11 fro11 old12 fro12
theorem made_int {w1 : World} {base e g n : Nat} (h : w1.ownsRow base e 1 (.slice (some ⟨g, 0, none⟩) n n) n (madeCells (Value.int .i64 0).cells (n * 1)).toList) (i : Nat) (hi : i < n) : w1.cell? ⟨g, i, none⟩ = some (.int .i64 0) := by
  have := h.cells (g := g) rfl i (.int .i64 0) (by simp [madeCells, Value.cells, hi, Nat.mod_one])
  rw [show (⟨g, 0, none⟩ : Addr).add i = ⟨g, i, none⟩ from by unfold Addr.add; split <;> simp_all] at this
  exact this
/-- The world of a product that is being made: two numbers in their boxes, the result's box, the row G of K digits. -/
def MU (s t : Int) (A B : Option Addr) (n m c c' : Nat) (w : World) (G K : Nat) (o : Nat → Int) (wr : World) : Prop :=
  (Below w.heap.size w wr ∧ G < wr.heap.size ∧ w.heap.size + 1 + 1 < G) ∧
  (wr.cell? ⟨w.heap.size, 0, none⟩ = some (.int .i64 s) ∧ wr.cell? ⟨w.heap.size, 1, none⟩ = some (.slice A n c) ∧ wr.cell? ⟨w.heap.size + 1, 0, none⟩ = some (.int .i64 t) ∧ wr.cell? ⟨w.heap.size + 1, 1, none⟩ = some (.slice B m c')) ∧
  (wr.cell? ⟨w.heap.size + 1 + 1, 0, none⟩ = some (.int .i64 0) ∧ wr.cell? ⟨w.heap.size + 1 + 1, 1, none⟩ = some (.slice none 0 0) ∧ wr.frozen? ⟨w.heap.size + 1 + 1, 0, none⟩ = false ∧ wr.frozen? ⟨w.heap.size + 1 + 1, 1, none⟩ = false) ∧
  ∀ j, j < K → wr.cell? ⟨G, j, none⟩ = some (.int .i64 (o j)) ∧ wr.frozen? ⟨G, j, none⟩ = false
theorem MU.drew {s t : Int} {A B : Option Addr} {n m c c' : Nat} {w : World} {G K : Nat} {o : Nat → Int} {wr : World} (h : MU s t A B n m c c' w G K o wr) : MU s t A B n m c c' w G K o wr.drew := by
  obtain ⟨⟨h1, h2, h3⟩, h4, h5, h6⟩ := h
  exact ⟨⟨h1.drew, by simpa using h2, h3⟩, by simpa using h4, by simpa using h5, fun j hj => by simpa using h6 j hj⟩
theorem MU.set {s t : Int} {A B : Option Addr} {n m c c' : Nat} {w : World} {G K : Nat} {o : Nat → Int} {wr : World} (h : MU s t A B n m c c' w G K o wr) (p : Nat) (v : Int) : MU s t A B n m c c' w G K (upd o p v) (wr.setCell ⟨G, p, none⟩ (.int .i64 v)) := by
  obtain ⟨⟨h1, h2, h3⟩, ⟨a1, a2, a3, a4⟩, ⟨r0, r1, f0, f1⟩, h6⟩ := h
  refine ⟨⟨h1.setCell (by show _ ≤ G; omega) _, by simpa using h2, h3⟩, ⟨cell_ne a1 (fun e _ => by omega), cell_ne a2 (fun e _ => by omega), cell_ne a3 (fun e _ => by omega), cell_ne a4 (fun e _ => by omega)⟩, ⟨cell_ne r0 (fun e _ => by omega), cell_ne r1 (fun e _ => by omega), by rw [World.frozen?_setCell]; exact f0, by rw [World.frozen?_setCell]; exact f1⟩, fun j hj => ⟨?_, by rw [World.frozen?_setCell]; exact (h6 j hj).2⟩⟩
  by_cases e : j = p
  · subst e
    rw [upd_at]
    exact World.cell?_setCell_same wr _ _ (h6 j hj).1
  · rw [upd_ne v e]
    exact cell_ne (h6 j hj).1 (fun _ e2 => e e2.symm)
theorem MU.dr {s t : Int} {A B : Option Addr} {n m c c' : Nat} {w : World} {G K : Nat} {o : Nat → Int} {wr : World} (h : MU s t A B n m c c' w G K o wr) {N : Int} (hK : K ≤ 200) (ho : Dig o K) (hv : dval o K = N) : DR wr (some ⟨G, 0, none⟩) K K N := by
  obtain ⟨⟨h1, h2, h3⟩, h4, h5, h6⟩ := h
  refine ⟨.inr ⟨G, rfl, Nat.le_refl _, by omega⟩, fun g e => ?_⟩
  simp only [Option.some.injEq, Addr.mk.injEq, and_true] at e
  subst e
  refine ⟨h2, fun i hi => ?_⟩
  rw [(h6 i hi).1, dg_of ho i hi, hv]
/-- What a round of the inner loop keeps. -/
def MI (P Q : Int) (i k m K : Nat) (o : Nat → Int) (cy : Int) : Prop := Dig o K ∧ (∀ j, i + m ≤ j → j < K → o j = 0) ∧ (0 ≤ cy ∧ cy < 1000000000) ∧ dval o K + cy * bp (i + k) = dval (dg P) i * Q + dg P i * dval (dg Q) k * bp i
theorem MI.step {P Q : Int} {i k m K : Nat} {o : Nat → Int} {cy : Int} (h : MI P Q i k m K o cy) (hk : k < m) (hK : i + m < K) :
    MI P Q i (k + 1) m K (upd o (i + k) ((o (i + k) + dg P i * dg Q k + cy) % 1000000000)) ((o (i + k) + dg P i * dg Q k + cy) / 1000000000) ∧ (0 ≤ o (i + k) + dg P i * dg Q k + cy ∧ o (i + k) + dg P i * dg Q k + cy < 1000000000000000000) ∧ (0 ≤ dg P i * dg Q k ∧ dg P i * dg Q k ≤ 999999998000000001) ∧ (0 ≤ o (i + k) ∧ o (i + k) < 1000000000) := by
  obtain ⟨h1, h2, ⟨h3, h4⟩, h5⟩ := h
  have a := dg_bd P i
  have b := dg_bd Q k
  obtain ⟨m1, m2, m3, m4, m5⟩ := mul_round (K := K) (i := i) (k := k) (by omega) h1 a.1 a.2 b.1 b.2 h3 h4 h5
  refine ⟨⟨m1, fun j hj hjK => ?_, m2, ?_⟩, m3, m4, h1 (i + k) (by omega)⟩
  · rw [upd_ne _ (by omega)]
    exact h2 j hj hjK
  · rw [m5, mul_inner]
theorem MI.last {P Q : Int} {i m K : Nat} {o : Nat → Int} {cy : Int} (h : MI P Q i m m K o cy) (hK : i + m < K) (hQ : dval (dg Q) m = Q) :
    (Dig (upd o (i + m) (o (i + m) + cy)) K ∧ (∀ j, i + 1 + m ≤ j → j < K → upd o (i + m) (o (i + m) + cy) j = 0) ∧ dval (upd o (i + m) (o (i + m) + cy)) K = dval (dg P) (i + 1) * Q) ∧ (o (i + m) = 0 ∧ 0 ≤ cy ∧ cy < 1000000000) := by
  obtain ⟨h1, h2, ⟨h3, h4⟩, h5⟩ := h
  have hz := h2 (i + m) (by omega) hK
  obtain ⟨m1, m2⟩ := mul_last hK h1 hz h3 h4 hQ rfl h5
  refine ⟨⟨m1, fun j hj hjK => ?_, m2⟩, hz, h3, h4⟩
  rw [upd_ne _ (by omega)]
  exact h2 j (by omega) hjK
def ldOut : Op := .load 3 (.tmp 74)
theorem ldOut_eq : ldOut = .load 3 (.tmp 74) := rfl
attribute [local go_sem] ldOut_eq
set_option maxRecDepth 100000 in
set_option maxHeartbeats 4000000 in
theorem wmul_x (s t : Int) (A B : Option Addr) (n m c c' : Nat) (P Q : Int) (w : World) (hn : n ≤ 25) (hm : m ≤ 25) (P0 : 0 ≤ P) (P1 : P < bp n) (Q0 : 0 ≤ Q) (Q1 : Q < bp m) (hA : DR w A n c P) (hB : DR w B m c' Q) (hs : -1 ≤ s ∧ s ≤ 1) (ht : -1 ≤ t ∧ t ≤ 1) :
    Calls Tryz.prog 110 #[.agg #[.int .i64 s, .slice A n c], .agg #[.int .i64 t, .slice B m c']] w fun e w' => ∃ G K, e = .returned (.agg #[.int .i64 (if P * Q = 0 then 0 else s * t), .slice (some ⟨G, 0, none⟩) (ln (P * Q)) K]) ∧ DN w w' (some ⟨G, 0, none⟩) (ln (P * Q)) K (P * Q) ∧ Below w.heap.size w w' := by
  have hPQ : P * Q < bp (n + m + 1) := by
    have e1 := Int.mul_le_mul_of_nonneg_right (Int.le_of_lt P1) Q0
    have e2 := Int.mul_lt_mul_of_pos_left Q1 (bp_pos n)
    rw [← bp_add] at e2
    have := bp_mono (show n + m ≤ n + m + 1 by omega)
    omega
  have hPQ0 := Int.mul_nonneg P0 Q0
  have HW := fun W G (hW : DR W (some ⟨G, 0, none⟩) (n + m + 1) (n + m + 1) (P * Q)) => Lib.hid (wideOf_any (s * t) (some ⟨G, 0, none⟩) (n + m + 1) (n + m + 1) (P * Q) W (by omega) hPQ0 hPQ hW)
  have HL := Lib.hid (ln_le hPQ0 (Int.lt_of_lt_of_le hPQ (bp_mono (show n + m + 1 ≤ 60 by omega))) hPQ)
  have HQ := Lib.hid (dg_all Q0 Q1)
  have HP := Lib.hid (dg_all P0 P1)
  have v1 : IntKind.i64.wrap ((n : Int) + (m : Int)) = (n : Int) + (m : Int) := IntWalk.i64_in _ (by omega)
  have v2 : IntKind.i64.wrap ((n : Int) + (m : Int) + 1) = (n : Int) + (m : Int) + 1 := IntWalk.i64_in _ (by omega)
  have v3 : IntKind.i64.wrap (s * t) = s * t := by
    have hs' : s = -1 ∨ s = 0 ∨ s = 1 := by omega
    have ht' : t = -1 ∨ t = 0 ∨ t = 1 := by omega
    rcases hs' with rfl | rfl | rfl <;> rcases ht' with rfl | rfl | rfl <;> decide
  generalize (if P * Q = 0 then (0 : Int) else s * t) = sv at *
  generalize hst : s * t = st at *
  have hA1 := hA.1
  have hB1 := hB.1
  have HA := Lib.hid hA
  have HB := Lib.hid hB
  clear hA hB P0 P1 Q0 Q1 hPQ hPQ0 hs ht
  obtain ⟨i0, hi0, hz0, hz1, hz2⟩ := info_parts infoInt
  go_enter Tryz.func110, Tryz.ntmps110
  go_wp2_with (at_make; go_loud (refine wpList_make_full _ rfl _ _ 84 rfl (w.heap.size + 1 + 1 + 1) 3 i0 _ 1 undInts hi0 hz0 hz1 .i64 .i64 ((n + m + 1 : Nat) : Int) ((n + m + 1 : Nat) : Int) (n + m + 1) rfl rfl rfl rfl (by rw [hz2]; omega) (by unfold maxLen; omega) (by simp) ?_; intro w1 hown1 hgrow1; have hb1 := below_none hgrow1; have HM := Lib.hid (fun i hi => made_int hown1 i hi); have HZ := Lib.hid (fun i => frozen_own hown1 i); have hs2 : w.heap.size + 1 + 1 + 1 < w1.heap.size := (by simpa using lt_of_own hown1); have HU : Hid (MU s t A B n m c c' w (w.heap.size + 1 + 1 + 1) (n + m + 1) (fun _ => 0) w1) := ⟨⟨thenD (show Below w.heap.size w _ by (repeat (first | with_reducible exact Below.refl _ _ | with_reducible assumption | with_reducible refine Below.alloc ?_ (by first | (simp; done) | (simp; omega) | omega) _ | with_reducible refine Below.setCell ?_ (by first | (simp; done) | (simp; omega) | omega) _ | with_reducible refine Below.drew ?_ | with_reducible refine below_drewN ?_ _))) hb1, hs2, by omega⟩, ⟨(hb1.cell (p := ⟨w.heap.size, 0, none⟩) (by first | (simp; done) | (simp; omega) | omega)).trans (by simp [go_sem]), (hb1.cell (p := ⟨w.heap.size, 1, none⟩) (by first | (simp; done) | (simp; omega) | omega)).trans (by simp [go_sem]), (hb1.cell (p := ⟨w.heap.size + 1, 0, none⟩) (by first | (simp; done) | (simp; omega) | omega)).trans (by simp [go_sem]), (hb1.cell (p := ⟨w.heap.size + 1, 1, none⟩) (by first | (simp; done) | (simp; omega) | omega)).trans (by simp [go_sem])⟩, ⟨(hb1.cell (p := ⟨w.heap.size + 1 + 1, 0, none⟩) (by first | (simp; done) | (simp; omega) | omega)).trans (by simp [go_sem]), (hb1.cell (p := ⟨w.heap.size + 1 + 1, 1, none⟩) (by first | (simp; done) | (simp; omega) | omega)).trans (by simp [go_sem]), (hb1.frozen (p := ⟨w.heap.size + 1 + 1, 0, none⟩) (by first | (simp; done) | (simp; omega) | omega)).trans (by simp [go_sem]), (hb1.frozen (p := ⟨w.heap.size + 1 + 1, 1, none⟩) (by first | (simp; done) | (simp; omega) | omega)).trans (by simp [go_sem])⟩, fun j hj => ⟨by simpa using HM.out j hj, by simpa using HZ.out j⟩⟩; clear hb1 hown1 hgrow1 HM HZ hs2))
  generalize hK : n + m + 1 = K at *
  generalize w.heap.size + 1 + 1 + 1 = G at *
  go_loopw [6] (fun s6 wr => ∃ (i : Nat) (o : Nat → Int), i ≤ n ∧ s6 = .int .i64 i ∧ Hid (MU s t A B n m c c' w G K o wr) ∧ Hid (Dig o K ∧ (∀ j, i + m ≤ j → j < K → o j = 0) ∧ dval o K = dval (dg P) i * Q)) (fun i _ => n - (intOf i).toNat)
  case atStart =>
    refine ⟨0, fun _ => 0, Nat.zero_le _, rfl, HU.out, fun j hj => ⟨Int.le_refl _, by show (0 : Int) < 1000000000; decide⟩, fun j _ _ => rfl, ?_⟩
    show dval (fun _ => 0) K = 0 * Q
    rw [Int.zero_mul]
    have : ∀ k, dval (fun _ => 0) k = 0 := fun k => by
      induction k with
      | zero => rfl
      | succ k ih => rw [dval_s, ih, Int.zero_mul]; rfl
    exact this K
  case round =>
    obtain ⟨i, o, hi, rfl, HU, HO⟩ := hrel
    obtain ⟨⟨hb, hG, hG2⟩, ⟨a0, a1, b0, b1⟩, ⟨r0, r1, f0, f1⟩, _⟩ := HU.out
    have g0 : (0 : Int) ≤ (i : Int) := by omega
    by_cases hlt : i < n
    · have g1 : (i : Int) < (n : Int) := by omega
      go_wp2_with fail
      go_loopw [7, 8] (fun s7 s8 wq => ∃ (k : Nat) (cy : Int) (o : Nat → Int), k ≤ m ∧ s7 = .int .i64 cy ∧ s8 = .int .i64 k ∧ Hid (MU s t A B n m c c' w G K o wq) ∧ Hid (MI P Q i k m K o cy)) (fun _ k _ => m - (intOf k).toNat)
      case atStart =>
        refine ⟨0, 0, o, Nat.zero_le _, rfl, rfl, HU.out, HO.out.1, HO.out.2.1, ⟨by decide, by decide⟩, ?_⟩
        rw [HO.out.2.2, Int.zero_mul]
        show _ + 0 = _ + dg P i * 0 * bp i
        rw [Int.mul_zero, Int.zero_mul]
      case round =>
        clear a0 a1 b0 b1 r0 r1 f0 f1 hb hG hG2 HU HO
        obtain ⟨k, cy, o, hk, rfl, rfl, HU, HI⟩ := hrel
        obtain ⟨⟨hb, hG, hG2⟩, ⟨a0, a1, b0, b1⟩, ⟨r0, r1, f0, f1⟩, hcs⟩ := HU.out
        have k0 : (0 : Int) ≤ (k : Int) := by omega
        by_cases hkm : k < m
        · have k1 : (k : Int) < (m : Int) := by omega
          rcases hA1 with ⟨_, h0, _⟩ | ⟨ga, rfl, hc, hc2⟩
          · omega
          rcases hB1 with ⟨_, h0, _⟩ | ⟨gb, rfl, hc', hc2'⟩
          · omega
          have ca := keep hb ((HA.out.2 ga rfl).2 i hlt)
          have cb := keep hb ((HB.out.2 gb rfl).2 k hkm)
          obtain ⟨co, fo⟩ := hcs (i + k) (by omega)
          obtain ⟨hst1, hst2, hst3, hst4⟩ := HI.out.step hkm (by omega)
          have hcy := HI.out.2.2.1
          have HS1 := Lib.hid hst1
          clear hst1 hcs
          generalize hX : o (i + k) = X at *
          generalize dg P i = Y at *
          generalize dg Q k = Z at *
          have u1 : IntKind.i64.wrap ((i : Int) + (k : Int)) = (i : Int) + (k : Int) := IntWalk.i64_in _ (by omega)
          have u2 : IntKind.i64.wrap (Y * Z) = Y * Z := IntWalk.i64_in _ (by omega)
          have u3 : IntKind.i64.wrap (X + Y * Z) = X + Y * Z := IntWalk.i64_in _ (by omega)
          have u4' : IntKind.i64.wrap (X + Y * Z + cy) = X + Y * Z + cy := IntWalk.i64_in _ (by omega)
          have u5' : (X + Y * Z + cy).tmod 1000000000 = (X + Y * Z + cy) % 1000000000 := Int.tmod_eq_emod_of_nonneg hst2.1
          have u6' : (X + Y * Z + cy).tdiv 1000000000 = (X + Y * Z + cy) / 1000000000 := Int.tdiv_eq_ediv_of_nonneg hst2.1
          have u7' : IntKind.i64.wrap ((X + Y * Z + cy) / 1000000000) = (X + Y * Z + cy) / 1000000000 := IntWalk.i64_in _ (by have := HS1.out.2.2.1; omega)
          have u8' : IntKind.i64.wrap ((k : Int) + 1) = (k : Int) + 1 := IntWalk.i64_in _ (by omega)
          have x1 : ((i : Int) + (k : Int)).toNat = i + k := by omega
          have x2 : (i : Int) + (k : Int) < (K : Int) := by omega
          have x3 : (0 : Int) ≤ (i : Int) + (k : Int) := by omega
          clear hX hst2 hst3 hst4
          go_wp2_with fail
          go_region_held3 (fun w' => w'.cell? ⟨G, i + k, none⟩ = some (.int .i64 X) ∧ w'.cell? ⟨w.heap.size, 1, none⟩ = some (.slice (some ⟨ga, 0, none⟩) n c) ∧ w'.cell? ⟨ga, i, none⟩ = some (.int .i64 Y) ∧ w'.cell? ⟨w.heap.size + 1, 1, none⟩ = some (.slice (some ⟨gb, 0, none⟩) m c') ∧ w'.cell? ⟨gb, k, none⟩ = some (.int .i64 Z)) (simp [go_sem, *]) (first | fail)
          all_goals
            go_wp2_with fail
            go_roundw
            case rel => exact ⟨k + 1, _, _, by omega, rfl, by go_num, HU.out.drew.set (i + k) _, HS1.out⟩
            case measure => simp [intOf]; omega
        · obtain rfl : k = m := by omega
          have k1 : ¬ (k : Int) < (k : Int) := by omega
          obtain ⟨hla1, hla2, hcy⟩ := HI.out.last (by omega) HQ.out
          obtain ⟨co, fo⟩ := hcs (i + k) (by omega)
          have HS1 := Lib.hid hla1
          rw [hla2] at co
          clear hla1 hcs
          have u1 : IntKind.i64.wrap ((i : Int) + (k : Int)) = (i : Int) + (k : Int) := IntWalk.i64_in _ (by omega)
          have u4' : IntKind.i64.wrap cy = cy := IntWalk.i64_in _ (by omega)
          have u8' : IntKind.i64.wrap ((i : Int) + 1) = (i : Int) + 1 := IntWalk.i64_in _ (by omega)
          have x1 : ((i : Int) + (k : Int)).toNat = i + k := by omega
          have x2 : (i : Int) + (k : Int) < (K : Int) := by omega
          have x3 : (0 : Int) ≤ (i : Int) + (k : Int) := by omega
          have HE : Hid (o (i + k) + cy = cy) := (by omega : o (i + k) + cy = cy)
          clear hla2 hcy
          go_wp2_with fail
          rw [← ldOut_eq]
          go_region_held3 (fun w' => w'.cell? ⟨w.heap.size + 1, 1, none⟩ = some (.slice B k c')) (simp [go_sem, *]) (first | fail)
          all_goals
            go_wp2_with fail
            go_roundw
            case rel =>
              have hs := HS1.out
              rw [HE.out] at hs
              exact ⟨i + 1, _, by omega, by go_num, HU.out.drew.set (i + k) _, hs⟩
            case measure => simp [intOf]; omega
    · obtain rfl : i = n := by omega
      have g1 : ¬ (i : Int) < (i : Int) := by omega
      have hd : DR wr (some ⟨G, 0, none⟩) K K (P * Q) := HU.out.dr (by omega) HO.out.1 (by rw [HO.out.2.2, HP.out])
      have HD := Lib.hid hd
      have hGs := hG2
      clear hd HU HO
      go_wp2_with (first
        | (go_at_call 141; (with_reducible refine Calls.mono (HW _ G HD.out).out ?_); rintro e w2 ⟨rfl, hb2⟩; have HD2 := Lib.hid (HD.out.below hb2); have B2 := Lib.hid (thenD hb hb2); have q4 := keep hb2 r0; have q5 := keep hb2 r1; have h0 := (hb2.frozen (p := ⟨w.heap.size + 1 + 1, 0, none⟩) (lt_of r0)).trans f0; have h1 := (hb2.frozen (p := ⟨w.heap.size + 1 + 1, 1, none⟩) (lt_of r1)).trans f1; clear hb2)
        | fail)
      refine bodyPost_ret (v := .agg #[.int .i64 sv, .slice (some ⟨G, 0, none⟩) (ln (P * Q)) K]) (by simp [results, Tryz.results110, go_sem, *]) rfl ⟨G, K, rfl, ⟨?_, ?_⟩, ?_⟩
      · exact dr_ne (dr_ne (HD2.out.less HL.out) (fun g e => by simp only [Option.some.injEq, Addr.mk.injEq, and_true] at e; omega) _ _) (fun g e => by simp only [Option.some.injEq, Addr.mk.injEq, and_true] at e; omega) _ _
      · intro g e
        simp only [Option.some.injEq, Addr.mk.injEq, and_true] at e
        omega
      · have B := B2.out
        (repeat (first | with_reducible exact Below.refl _ _ | with_reducible assumption | with_reducible refine Below.alloc ?_ (by first | (simp; done) | (simp; omega) | omega) _ | with_reducible refine Below.setCell ?_ (by first | (simp; done) | (simp; omega) | omega) _ | with_reducible refine Below.drew ?_ | with_reducible refine below_drewN ?_ _))
end Go.Proofs.YtnfoagcpgegldaaGreat
namespace Go.Proofs.YtnfoagcpgegldaaGreat
open Go.RowKit Go.Shelf Go.Sort
attribute [local go_sem] idx3_0 idx3_1 idx3_2 old1 fro1 old2 fro2 old3 fro3 old4 fro4 old5 fro5 old6 fro6 old7 fro7 old8 fro8 old9 fro9 old10 fro10 old11 fro11 old12 fro12
theorem siz_mul (a b : Int) : siz (a * b) = siz a * siz b := by unfold siz; rw [Int.natAbs_mul]; rfl
theorem WideMul_any (N M : Int) (A B : Option Addr) (c c' : Nat) (w : World) (hN : siz N < bp 25) (hM : siz M < bp 25) (hA : DR w A (ln (siz N)) c (siz N)) (hB : DR w B (ln (siz M)) c' (siz M)) :
    Calls Tryz.prog 110 #[WV N A c, WV M B c'] w fun e w' => ∃ A' c2, e = .returned (WV (N * M) A' c2) ∧ DN w w' A' (ln (siz (N * M))) c2 (siz (N * M)) ∧ Below w.heap.size w w' := by
  have nN := siz_nn N
  have nM := siz_nn M
  have h60 := bp_mono (show 25 ≤ 60 by decide)
  have lN := ln_spec nN (by omega)
  have lM := ln_spec nM (by omega)
  refine (wmul_x (sgn N) (sgn M) A B _ _ c c' (siz N) (siz M) w (ln_le nN (by omega) hN) (ln_le nM (by omega) hM) nN lN.1 nM lM.1 hA hB (sgn_bd N) (sgn_bd M)).mono ?_
  rintro e w' ⟨G, K, rfl, hd, hb⟩
  rw [← siz_mul] at hd
  refine ⟨_, K, ?_, hd, hb⟩
  unfold WV
  rw [← siz_mul, ← sgn_mul]
  by_cases h0 : siz (N * M) = 0
  · rw [if_pos h0]
    have : N * M = 0 := by unfold siz at h0; omega
    rw [this]; rfl
  · rw [if_neg h0]
set_option maxRecDepth 100000 in
set_option maxHeartbeats 2000000 in
theorem square_any (x : Int) (w : World) (h1 : -9223372036854775807 ≤ x) (h2 : x ≤ 9223372036854775807) :
    Calls Tryz.prog 75 #[.int .i64 x] w fun e w' => ∃ A' c2, e = .returned (WV (x * x) A' c2) ∧ DN w w' A' (ln (siz (x * x))) c2 (siz (x * x)) ∧ Below w.heap.size w w' := by
  have h3 : siz x < bp 25 := by
    have := bp_mono (show 3 ≤ 25 by decide)
    rw [bp_3] at this
    unfold siz
    omega
  have HO := fun W => Lib.hid (WideOf_any x W h1 h2)
  have HM := fun W A B c c' a b => Lib.hid (WideMul_any x x A B c c' W h3 h3 a b)
  clear h3 h1 h2
  unfold WV at *
  generalize sgn x = s at *
  generalize sgn (x * x) = ss at *
  generalize siz (x * x) = X2 at *
  generalize siz x = X at *
  generalize ln X = n at *
  generalize ln X2 = m at *
  go_enter Tryz.func75, Tryz.ntmps75
  go_wp2_with (first
    | (go_at_call 104; have Dt := B1.out; clear Dt; (with_reducible refine Calls.mono (HO _).out ?_); rintro e w2 ⟨A2, c2, rfl, hd2, hb2⟩; have B2 := Lib.hid (thenD B1.out hb2); have HE1 := Lib.hid (HD1.out.below hb2); have HD2 := Lib.hid hd2.1; have q0 := keep hb2 p0; have q1 := keep hb2 p1; have h0 := (hb2.frozen (p := ⟨w.heap.size, 0, none⟩) (lt_of p0)).trans f0; have h1 := (hb2.frozen (p := ⟨w.heap.size, 1, none⟩) (lt_of p1)).trans f1; clear hd2 hb2)
    | (go_at_call 104; (with_reducible refine Calls.mono (HO _).out ?_); rintro e w1 ⟨A1, c1, rfl, hd1, hb1⟩; have B1 := Lib.hid (thenD (show Below w.heap.size w _ by (repeat (first | with_reducible exact Below.refl _ _ | with_reducible assumption | with_reducible refine Below.alloc ?_ (by first | (simp; done) | (simp; omega) | omega) _ | with_reducible refine Below.setCell ?_ (by first | (simp; done) | (simp; omega) | omega) _ | with_reducible refine Below.drew ?_ | with_reducible refine below_drewN ?_ _))) hb1); have HD1 := Lib.hid hd1.1; have p0 := (hb1.cell (p := ⟨w.heap.size, 0, none⟩) (by first | (simp; done) | (simp; omega) | omega)).trans (show _ = some (.int .i64 0) by simp [go_sem]); have p1 := (hb1.cell (p := ⟨w.heap.size, 1, none⟩) (by first | (simp; done) | (simp; omega) | omega)).trans (show _ = some (.slice none 0 0) by simp [go_sem]); have f0 := (hb1.frozen (p := ⟨w.heap.size, 0, none⟩) (by first | (simp; done) | (simp; omega) | omega)).trans (show _ = false by simp [go_sem]); have f1 := (hb1.frozen (p := ⟨w.heap.size, 1, none⟩) (by first | (simp; done) | (simp; omega) | omega)).trans (show _ = false by simp [go_sem]); clear hd1 hb1)
    | (go_at_call 110; (with_reducible refine Calls.mono (HM _ A1 A2 c1 c2 HE1.out HD2.out).out ?_); rintro e w3 ⟨A3, c3, rfl, hd3, hb3⟩; have B3 := Lib.hid (thenD B2.out hb3); have HD3 := Lib.hid hd3.1; have HG3 : Hid (∀ g, A3 = some ⟨g, 0, none⟩ → w.heap.size < g) := (fun g e => by have a := hd3.2 g e; have b := lt_of q0; omega); have t0 := keep hb3 q0; have t1 := keep hb3 q1; have k0 := (hb3.frozen (p := ⟨w.heap.size, 0, none⟩) (lt_of q0)).trans h0; have k1 := (hb3.frozen (p := ⟨w.heap.size, 1, none⟩) (lt_of q1)).trans h1; clear hd3 hb3)
    | fail)
  refine bodyPost_ret (v := .agg #[.int .i64 ss, .slice A3 m c3]) (by simp [results, Tryz.results75, go_sem, *]) rfl ⟨_, _, rfl, ⟨?_, ?_⟩, ?_⟩
  · exact dr_ne (dr_ne HD3.out (fun g e => by have := HG3.out g e; omega) _ _) (fun g e => by have := HG3.out g e; omega) _ _
  · exact fun g e => Nat.le_of_lt (HG3.out g e)
  · have B := B3.out
    (repeat (first | with_reducible exact Below.refl _ _ | with_reducible assumption | with_reducible refine Below.alloc ?_ (by first | (simp; done) | (simp; omega) | omega) _ | with_reducible refine Below.setCell ?_ (by first | (simp; done) | (simp; omega) | omega) _ | with_reducible refine Below.drew ?_ | with_reducible refine below_drewN ?_ _))
end Go.Proofs.YtnfoagcpgegldaaGreat
