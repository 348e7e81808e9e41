/- Helpers: the checks of two tracks and a time, in their order. -/
import Derived.Test.YtolondcbllkimaaG
import Derived.Test.YtolondcbllkimaaH
namespace Go.Proofs.Ytolondcbllkimaa
open Go.RowKit Go.Shelf Go.Sort
attribute [local go_sem] idx3_0 idx3_1 idx3_2 old1 fro1 old2 fro2 old3 fro3 old4 fro4 old5 fro5 old6 fro6 old7 fro7 old8 fro8 old9 fro9 old10 fro10 old11 fro11 old12 fro12
/-- A track as a value: where its knots lie, if any. -/
structure TV where
  a : Option Addr
  n : Nat
  c : Nat
  k : Nat → Knot
  d : Int
def TV.At (t : TV) (w : World) : Prop := KA w t.a t.n t.k ∧ t.n ≤ 9223372036854775807
def TV.err (t : TV) : Int := ctErr t.k t.n t.d
theorem TV.At.below {t : TV} {w w' : World} (h : t.At w) (hb : Below w.heap.size w w') : t.At w' := ⟨fun h0 => by
  obtain ⟨b, off, e, hk⟩ := h.1 h0
  exact ⟨b, off, e, hk.below hb hk.1⟩, h.2⟩
theorem TV.At.below' {t : TV} {w w' : World} {B : Nat} (h : t.At w) (hb : Below B w w') (hB : w.heap.size ≤ B) : t.At w' := h.below (hb.mono hB)
theorem TV.valid {t : TV} {w : World} (h : t.At w) (he : t.err = 0) : ∃ b off, t.a = some ⟨b, off, none⟩ ∧ (Trk.mk b off t.n t.c t.k t.d).At w := by
  obtain ⟨h0, h12, _⟩ := valid_of he
  obtain ⟨b, off, e, hk⟩ := h.1 h0
  exact ⟨b, off, e, h0, by show t.n ≤ 100; omega, hk⟩
def timesErr (A B : TV) (time : Int) : Int := if outside time A.k A.n || outside time B.k B.n then 2 else 0
def bothErr (A B : TV) : Int := if A.err = 0 then B.err else A.err
def distErr (A B : TV) (time : Int) : Int := if bothErr A B = 0 then timesErr A B time else bothErr A B
def CK3 (W : World) (L p1 p2 q1 q2 s t TB : Nat) (A B : TV) (time : Int) : Prop :=
  (W.cell? ⟨L, 0, none⟩ = some (.func (.func 86) #[] #[.pointer (some ⟨p1, 0, none⟩)]) ∧ W.cell? ⟨L, 1, none⟩ = some (.func (.func 86) #[] #[.pointer (some ⟨p2, 0, none⟩)]) ∧
   W.cell? ⟨L, 2, none⟩ = some (.func (.func 105) #[] #[.pointer (some ⟨q1, 0, none⟩), .pointer (some ⟨q2, 0, none⟩)])) ∧
  (W.cell? ⟨p1, 0, none⟩ = some (.slice A.a A.n A.c) ∧ W.cell? ⟨p1, 1, none⟩ = some (.int .i64 A.d)) ∧ (W.cell? ⟨p2, 0, none⟩ = some (.slice B.a B.n B.c) ∧ W.cell? ⟨p2, 1, none⟩ = some (.int .i64 B.d)) ∧
  (W.cell? ⟨q1, 0, none⟩ = some (.func (.func 87) #[] #[.pointer (some ⟨s, 0, none⟩), .pointer (some ⟨t, 0, none⟩)]) ∧ W.cell? ⟨q2, 0, none⟩ = some (.int .i64 2)) ∧
  (W.cell? ⟨s, 0, none⟩ = some (.slice (some ⟨TB, 0, none⟩) 2 2) ∧ W.cell? ⟨t, 0, none⟩ = some (.int .i64 time)) ∧
  (W.cell? ⟨TB, 0, none⟩ = some (.slice A.a A.n A.c) ∧ W.cell? ⟨TB, 1, none⟩ = some (.int .i64 A.d) ∧ W.cell? ⟨TB, 2, none⟩ = some (.slice B.a B.n B.c) ∧ W.cell? ⟨TB, 3, none⟩ = some (.int .i64 B.d))
theorem check3_any (A B : TV) (time : Int) (L p1 p2 q1 q2 s t TB : Nat) (W : World) (hA : A.At W) (hB : B.At W) (h : CK3 W L p1 p2 q1 q2 s t TB A B time) :
    Calls Try.prog 46 #[.slice (some ⟨L, 0, none⟩) 3 3] W fun e w' => e = .returned (.int .i64 (distErr A B time)) ∧ Below W.heap.size W w' := by
  obtain ⟨⟨l0, l1, l2⟩, ⟨a0, a1⟩, ⟨b0, b1⟩, ⟨c0, c1⟩, ⟨s0, t0⟩, ⟨e0, e1, e2, e3⟩⟩ := h
  have hr : ferr (fun i => if i = 0 then A.err else if i = 1 then B.err else timesErr A B time) 0 3 = distErr A B time := by
    simp only [ferr, distErr, bothErr, if_true]
    by_cases hA0 : A.err = 0
    · simp [hA0]
      by_cases hB0 : B.err = 0
      · simp [hB0]
        intro h; exact h.symm
      · simp [hB0]
    · simp [hA0]
  rw [← hr]
  refine firstError_any L 3 (fun i => if i = 0 then 86 else if i = 1 then 86 else 105) (fun i => if i = 0 then #[.pointer (some ⟨p1, 0, none⟩)] else if i = 1 then #[.pointer (some ⟨p2, 0, none⟩)] else #[.pointer (some ⟨q1, 0, none⟩), .pointer (some ⟨q2, 0, none⟩)])
    (fun i => if i = 0 then A.err else if i = 1 then B.err else timesErr A B time) W (by omega) (lt_of l0) ?_ ?_ ?_
  · intro i hi
    rcases (by omega : i = 0 ∨ i = 1 ∨ i = 2) with rfl | rfl | rfl
    · exact l0
    · exact l1
    · exact l2
  · intro i hi
    rcases (by omega : i = 0 ∨ i = 1 ∨ i = 2) with rfl | rfl | rfl
    · exact (enters_of Try.func86 (by kernel_rfl) rfl)
    · exact (enters_of Try.func86 (by kernel_rfl) rfl)
    · exact (enters_of Try.func105 (by kernel_rfl) rfl)
  · intro i w1 hi hz hb
    rcases (by omega : i = 0 ∨ i = 1 ∨ i = 2) with rfl | rfl | rfl
    · exact trackCheck1_any A.a A.n A.c p1 A.d w1 A.k hA.2 (hA.below hb).1 (keep hb a0) (keep hb a1)
    · exact trackCheck1_any B.a B.n B.c p2 B.d w1 B.k hB.2 (hB.below hb).1 (keep hb b0) (keep hb b1)
    · have hA0 : A.err = 0 := hz 0 (by omega)
      have hB0 : B.err = 0 := hz 1 (by omega)
      obtain ⟨ba, oa, ea, ha⟩ := TV.valid (hA.below hb) hA0
      obtain ⟨bb, ob, eb, hbb⟩ := TV.valid (hB.below hb) hB0
      rw [ea] at e0
      rw [eb] at e2
      have hc := timeCheck1_any 2 TB s t (fun i => if i = 0 then ⟨ba, oa, A.n, A.c, A.k, A.d⟩ else ⟨bb, ob, B.n, B.c, B.k, B.d⟩) time w1 (by omega) (keep hb s0) (keep hb t0) (lt_of (keep hb e0)) (lt_of (keep hb t0))
        (fun i hi => by
          rcases (by omega : i = 0 ∨ i = 1) with rfl | rfl
          · exact ⟨keep hb e0, keep hb e1⟩
          · exact ⟨keep hb e2, keep hb e3⟩)
        (fun i hi => by
          rcases (by omega : i = 0 ∨ i = 1) with rfl | rfl
          · exact ha
          · exact hbb)
      have hreq := require1_any q1 q2 87 #[.pointer (some ⟨s, 0, none⟩), .pointer (some ⟨t, 0, none⟩)] 2 _ w1 (keep hb c0) (keep hb c1) (lt_of (keep hb c1)) (enters_of Try.func87 (by kernel_rfl) rfl) hc
      refine hreq.mono ?_
      rintro e w' ⟨rfl, hw⟩
      refine ⟨ret_int ?_, hw⟩
      simp only [timesErr]
      simp [List.range, List.range.loop]
      cases outside time A.k A.n <;> cases outside time B.k B.n <;> simp
end Go.Proofs.Ytolondcbllkimaa
