/- Helpers: the squares of the least and of the greatest distance of two tracks at two times (the document's own). -/
import Derived.Test.YtnfoagcpgegldaaGreatB39
import Derived.Test.YtnfoagcpgegldaaGreatB05
namespace Go.Proofs.YtnfoagcpgegldaaGreat
open Go.RowKit Go.Shelf Go.Sort
attribute [local go_sem] idx3_0 idx3_1 idx3_2 old1 fro1 old2 fro2 old3 fro3 old4 fro4 old5 fro5 old6 fro6 old7 fro7 old8 fro8 old9 fro9 old10 fro10 old11 fro11 old12 fro12
theorem sq_call (x : Int) (h0 : 0 ≤ x) (h1 : x ≤ 9000000000000000000) (W : World) : Calls Tryz.prog 75 #[.int .i64 x] W fun e w' => ∃ A' c2, e = .returned (.agg #[.int .i64 (sgn (x * x)), .slice A' (ln (x * x)) c2]) ∧ DN W w' A' (ln (x * x)) c2 (x * x) ∧ Below W.heap.size W w' := by
  have hs : siz (x * x) = x * x := siz_p (sq_bp h0 h1).1
  refine (square_any x W (by omega) (by omega)).mono ?_
  rintro e w' ⟨A', c2, rfl, hd, hb⟩
  unfold WV
  rw [hs] at *
  exact ⟨A', c2, rfl, hd, hb⟩
theorem add_call (S Q : Int) (A B : Option Addr) (c c' : Nat) (W : World) (S0 : 0 ≤ S) (S1 : S < bp 50) (Q0 : 0 ≤ Q) (Q1 : Q < bp 50) (hA : DR W A (ln S) c S) (hB : DR W B (ln Q) c' Q) :
    Calls Tryz.prog 106 #[.agg #[.int .i64 (sgn S), .slice A (ln S) c], .agg #[.int .i64 (sgn Q), .slice B (ln Q) c']] W fun e w' => ∃ A' c2, e = .returned (.agg #[.int .i64 (sgn (S + Q)), .slice A' (ln (S + Q)) c2]) ∧ DR w' A' (ln (S + Q)) c2 (S + Q) ∧ (∀ g, A' = some ⟨g, 0, none⟩ → W.heap.size ≤ g ∨ A' = A ∨ A' = B) ∧ Below W.heap.size W w' := by
  have h1 := siz_p S0
  have h2 := siz_p Q0
  have h3 := siz_p (show 0 ≤ S + Q by omega)
  have h := WideAdd_any S Q A B c c' W (by rw [h1]; exact S1) (by rw [h2]; exact Q1) (by rw [h1]; exact hA) (by rw [h2]; exact hB)
  unfold WV at h
  rw [h1, h2] at h
  refine h.mono ?_
  rintro e w' ⟨A', c2, rfl, hd, hg, hb⟩
  unfold WV
  rw [h3] at *
  exact ⟨A', c2, rfl, hd, hg, hb⟩
theorem zero_call (W : World) : Calls Tryz.prog 104 #[.int .i64 0] W fun e w' => ∃ A c, e = .returned (.agg #[.int .i64 0, .slice A 0 c]) ∧ DN W w' A 0 c 0 ∧ Below W.heap.size W w' :=
  WideOf_any 0 W (by decide) (by decide)
/-- A number in its box Q, whose digits lie in no box. -/
def SB (wr : World) (R L Q : Nat) (N : Int) : Prop := ∃ A c, (wr.cell? ⟨Q, 0, none⟩ = some (.int .i64 (sgn N)) ∧ wr.cell? ⟨Q, 1, none⟩ = some (.slice A (ln N) c)) ∧ (wr.frozen? ⟨Q, 0, none⟩ = false ∧ wr.frozen? ⟨Q, 1, none⟩ = false) ∧ DR wr A (ln N) c N ∧ ∀ g, A = some ⟨g, 0, none⟩ → g ≠ R ∧ g ≠ R + 1 ∧ g ≠ L ∧ g ≠ L + 1
def RS (x y z n : Int) (w : World) (R D L P : Nat) (N1 N2 : Int) (wr : World) : Prop :=
  (Below w.heap.size w wr ∧ w.heap.size ≤ R ∧ R + 1 < D ∧ D < L ∧ L + 1 < P ∧ P < wr.heap.size) ∧
  (wr.cell? ⟨R, 0, none⟩ = some (.int .i64 0) ∧ wr.cell? ⟨R, 1, none⟩ = some (.slice none 0 0) ∧ wr.cell? ⟨R + 1, 0, none⟩ = some (.int .i64 0) ∧ wr.cell? ⟨R + 1, 1, none⟩ = some (.slice none 0 0)) ∧
  (wr.frozen? ⟨R, 0, none⟩ = false ∧ wr.frozen? ⟨R, 1, none⟩ = false ∧ wr.frozen? ⟨R + 1, 0, none⟩ = false ∧ wr.frozen? ⟨R + 1, 1, none⟩ = false) ∧
  wr.cell? ⟨D, 3, none⟩ = some (.int .i64 n) ∧
  (wr.cell? ⟨P, 0, none⟩ = some (.int .i64 x) ∧ wr.cell? ⟨P, 1, none⟩ = some (.int .i64 y) ∧ wr.cell? ⟨P, 2, none⟩ = some (.int .i64 z)) ∧
  SB wr R L L N1 ∧ SB wr R L (L + 1) N2
theorem SB.keep {wr wx : World} {R L Q : Nat} {N : Int} (h : SB wr R L Q N) (hb : Below wr.heap.size wr wx) : SB wx R L Q N := by
  obtain ⟨A, c, ⟨p0, p1⟩, ⟨f0, f1⟩, hd, hg⟩ := h
  exact ⟨A, c, ⟨_root_.Go.Proofs.YtnfoagcpgegldaaGreat.keep hb p0, _root_.Go.Proofs.YtnfoagcpgegldaaGreat.keep hb p1⟩, ⟨(hb.frozen (p := ⟨Q, 0, none⟩) (lt_of p0)).trans f0, (hb.frozen (p := ⟨Q, 1, none⟩) (lt_of p1)).trans f1⟩, hd.below hb, hg⟩
theorem RS.keep {x y z n : Int} {w : World} {R D L P : Nat} {N1 N2 : Int} {wr wx : World} (h : RS x y z n w R D L P N1 N2 wr) (hb : Below wr.heap.size wr wx) : RS x y z n w R D L P N1 N2 wx := by
  obtain ⟨⟨h1, h2, h3, h4, h5, h6⟩, ⟨r0, r1, r2, r3⟩, ⟨f0, f1, f2, f3⟩, d3, ⟨p0, p1, p2⟩, s1, s2⟩ := h
  have k := fun {b o : Nat} {v : Value} (e : wr.cell? ⟨b, o, none⟩ = some v) => _root_.Go.Proofs.YtnfoagcpgegldaaGreat.keep hb e
  exact ⟨⟨h1.trans (hb.mono h1.size), h2, h3, h4, h5, Nat.lt_of_lt_of_le h6 hb.size⟩, ⟨k r0, k r1, k r2, k r3⟩, ⟨(hb.frozen (p := ⟨R, 0, none⟩) (lt_of r0)).trans f0, (hb.frozen (p := ⟨R, 1, none⟩) (lt_of r1)).trans f1, (hb.frozen (p := ⟨R + 1, 0, none⟩) (lt_of r2)).trans f2, (hb.frozen (p := ⟨R + 1, 1, none⟩) (lt_of r3)).trans f3⟩, k d3, ⟨k p0, k p1, k p2⟩, s1.keep hb, s2.keep hb⟩
theorem SB.other {wr : World} {R L Q Q' : Nat} {N : Int} (h : SB wr R L Q N) (hQ : Q' ≠ Q) (hL : Q' = L ∨ Q' = L + 1 ∨ Q' = R ∨ Q' = R + 1) (o : Nat) (v : Value) : SB (wr.setCell ⟨Q', o, none⟩ v) R L Q N := by
  obtain ⟨A, c, ⟨p0, p1⟩, ⟨f0, f1⟩, hd, hg⟩ := h
  exact ⟨A, c, ⟨cell_ne p0 (fun e _ => hQ e), cell_ne p1 (fun e _ => hQ e)⟩, ⟨by rw [World.frozen?_setCell]; exact f0, by rw [World.frozen?_setCell]; exact f1⟩, dr_ne hd (fun g e => by obtain ⟨a1, a2, a3, a4⟩ := hg g e; rcases hL with q | q | q | q <;> rw [q] <;> assumption) _ _, hg⟩
theorem SB.new {wr : World} {R L Q : Nat} {N N' : Int} (h : SB wr R L Q N) {A : Option Addr} {c : Nat} (hQ : Q = L ∨ Q = L + 1) (hd : DR wr A (ln N') c N') (hg : ∀ g, A = some ⟨g, 0, none⟩ → g ≠ R ∧ g ≠ R + 1 ∧ g ≠ L ∧ g ≠ L + 1) :
    SB ((wr.setCell ⟨Q, 0, none⟩ (.int .i64 (sgn N'))).setCell ⟨Q, 1, none⟩ (.slice A (ln N') c)) R L Q N' := by
  obtain ⟨A0, c0, ⟨p0, p1⟩, ⟨f0, f1⟩, _, _⟩ := h
  have hgQ : ∀ g, A = some ⟨g, 0, none⟩ → g ≠ Q := fun g e => by obtain ⟨_, _, a3, a4⟩ := hg g e; rcases hQ with q | q <;> rw [q] <;> assumption
  refine ⟨A, c, ⟨?_, ?_⟩, ⟨by rw [World.frozen?_setCell, World.frozen?_setCell]; exact f0, by rw [World.frozen?_setCell, World.frozen?_setCell]; exact f1⟩, dr_ne (dr_ne hd hgQ _ _) hgQ _ _, hg⟩
  · exact cell_ne (World.cell?_setCell_same wr _ _ p0) (fun _ e => by cases e)
  · exact World.cell?_setCell_same _ _ _ (cell_ne p1 (fun _ e => by cases e))
theorem RS.set1 {x y z n : Int} {w : World} {R D L P : Nat} {N1 N2 N' : Int} {wr : World} (h : RS x y z n w R D L P N1 N2 wr) {A : Option Addr} {c : Nat} (hd : DR wr A (ln N') c N') (hg : ∀ g, A = some ⟨g, 0, none⟩ → g ≠ R ∧ g ≠ R + 1 ∧ g ≠ L ∧ g ≠ L + 1) :
    RS x y z n w R D L P N' N2 ((wr.setCell ⟨L, 0, none⟩ (.int .i64 (sgn N'))).setCell ⟨L, 1, none⟩ (.slice A (ln N') c)) := by
  have e2 := h.2.2.2.2.2.2
  have n1 := h.2.2.2.2.2.1.new (.inl rfl) hd hg
  have n2 := (e2.other (Q' := L) (by omega) (.inl rfl) 0 (.int .i64 (sgn N'))).other (Q' := L) (by omega) (.inl rfl) 1 (.slice A (ln N') c)
  obtain ⟨⟨h1, h2, h3, h4, h5, h6⟩, ⟨r0, r1, r2, r3⟩, ⟨f0, f1, f2, f3⟩, d3, ⟨p0, p1, p2⟩, _, _⟩ := h
  have k := fun {b o' : Nat} {v' : Value} (e : wr.cell? ⟨b, o', none⟩ = some v') (hb : L ≠ b) => cell_ne (o' := 1) (u := .slice A (ln N') c) (cell_ne (o' := 0) (u := .int .i64 (sgn N')) e (fun q _ => hb q)) (fun q _ => hb q)
  exact ⟨⟨(h1.setCell (by show _ ≤ L; omega) _).setCell (by show _ ≤ L; omega) _, h2, h3, h4, h5, by simpa using h6⟩, ⟨k r0 (by omega), k r1 (by omega), k r2 (by omega), k r3 (by omega)⟩, ⟨by rw [World.frozen?_setCell, World.frozen?_setCell]; exact f0, by rw [World.frozen?_setCell, World.frozen?_setCell]; exact f1, by rw [World.frozen?_setCell, World.frozen?_setCell]; exact f2, by rw [World.frozen?_setCell, World.frozen?_setCell]; exact f3⟩, k d3 (by omega), ⟨k p0 (by omega), k p1 (by omega), k p2 (by omega)⟩, n1, n2⟩
theorem RS.set2 {x y z n : Int} {w : World} {R D L P : Nat} {N1 N2 N' : Int} {wr : World} (h : RS x y z n w R D L P N1 N2 wr) {A : Option Addr} {c : Nat} (hd : DR wr A (ln N') c N') (hg : ∀ g, A = some ⟨g, 0, none⟩ → g ≠ R ∧ g ≠ R + 1 ∧ g ≠ L ∧ g ≠ L + 1) :
    RS x y z n w R D L P N1 N' ((wr.setCell ⟨L + 1, 0, none⟩ (.int .i64 (sgn N'))).setCell ⟨L + 1, 1, none⟩ (.slice A (ln N') c)) := by
  have e1 := h.2.2.2.2.2.1
  have n2 := h.2.2.2.2.2.2.new (.inr rfl) hd hg
  have n1 := (e1.other (Q' := L + 1) (by omega) (.inr (.inl rfl)) 0 (.int .i64 (sgn N'))).other (Q' := L + 1) (by omega) (.inr (.inl rfl)) 1 (.slice A (ln N') c)
  obtain ⟨⟨h1, h2, h3, h4, h5, h6⟩, ⟨r0, r1, r2, r3⟩, ⟨f0, f1, f2, f3⟩, d3, ⟨p0, p1, p2⟩, _, _⟩ := h
  have k := fun {b o' : Nat} {v' : Value} (e : wr.cell? ⟨b, o', none⟩ = some v') (hb : L + 1 ≠ b) => cell_ne (o' := 1) (u := .slice A (ln N') c) (cell_ne (o' := 0) (u := .int .i64 (sgn N')) e (fun q _ => hb q)) (fun q _ => hb q)
  exact ⟨⟨(h1.setCell (by show _ ≤ L + 1; omega) _).setCell (by show _ ≤ L + 1; omega) _, h2, h3, h4, h5, by simpa using h6⟩, ⟨k r0 (by omega), k r1 (by omega), k r2 (by omega), k r3 (by omega)⟩, ⟨by rw [World.frozen?_setCell, World.frozen?_setCell]; exact f0, by rw [World.frozen?_setCell, World.frozen?_setCell]; exact f1, by rw [World.frozen?_setCell, World.frozen?_setCell]; exact f2, by rw [World.frozen?_setCell, World.frozen?_setCell]; exact f3⟩, k d3 (by omega), ⟨k p0 (by omega), k p1 (by omega), k p2 (by omega)⟩, n1, n2⟩
def V3 (x y z : Int) (j : Nat) : Int := if j = 0 then x else if j = 1 then y else z
theorem nsum_step (g : Int → Int → Int) (x y z d : Int) {j : Nat} (h : j < 3) : nsum g x y z d (j : Int) + g (V3 x y z j) d * g (V3 x y z j) d = nsum g x y z d ((j : Int) + 1) := by
  rcases (by omega : j = 0 ∨ j = 1 ∨ j = 2) with rfl | rfl | rfl
  · exact nsum_0 g x y z d
  · exact nsum_1 g x y z d
  · exact nsum_2 g x y z d
end Go.Proofs.YtnfoagcpgegldaaGreat
