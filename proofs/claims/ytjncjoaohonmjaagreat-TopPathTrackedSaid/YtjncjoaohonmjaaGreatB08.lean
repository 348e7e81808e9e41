/- Helpers: places of tracks, plainly, and the contract of placeAt at a valid track. -/
import Derived.Test.YtjncjoaohonmjaaGreatB05
import Derived.Test.YtjncjoaohonmjaaGreatB07
namespace Go.Proofs.YtjncjoaohonmjaaGreat
open Go.RowKit Go.Shelf Go.Sort
attribute [local go_sem] idx3_0 idx3_1 idx3_2 old1 fro1 old2 fro2 old3 fro3 old4 fro4 old5 fro5 old6 fro6 old7 fro7 old8 fro8 old9 fro9 old10 fro10 old11 fro11 old12 fro12
structure Plc where
  x : Int
  y : Int
  z : Int
  n : Int
/-- The first knot that is not before a time. -/
def mIdx (k : Nat → Knot) (n : Nat) (time : Int) : Nat := ((List.range n).find? fun i => decide (time ≤ (k i).t)).getD 0
def plc (k : Nat → Knot) (n : Nat) (time : Int) : Plc :=
  let m := mIdx k n time
  if (k m).t = time then ⟨(k m).x, (k m).y, (k m).z, 1⟩
  else ⟨(k (m - 1)).x * ((k m).t - time) + (k m).x * (time - (k (m - 1)).t), (k (m - 1)).y * ((k m).t - time) + (k m).y * (time - (k (m - 1)).t), (k (m - 1)).z * ((k m).t - time) + (k m).z * (time - (k (m - 1)).t), (k m).t - (k (m - 1)).t⟩
theorem ctFrom_none {k : Nat → Knot} : ∀ {n i : Nat}, ctFrom k i n = none → ∀ j, i ≤ j → j < i + n → knotErr k j = 0
  | 0, i, _, j, h1, h2 => by omega
  | n + 1, i, h, j, h1, h2 => by
    unfold ctFrom at h
    by_cases hz : knotErr k i = 0
    · rw [if_pos hz] at h
      by_cases e : j = i
      · rw [e]; exact hz
      · exact ctFrom_none h j (by omega) (by omega)
    · rw [if_neg hz] at h; cases h
theorem ctFrom_some {k : Nat → Knot} : ∀ {n i : Nat} {q : Nat × Int}, ctFrom k i n = some q → q.2 ≠ 0
  | 0, i, q, h => by cases h
  | n + 1, i, q, h => by
    unfold ctFrom at h
    by_cases hz : knotErr k i = 0
    · rw [if_pos hz] at h; exact ctFrom_some h
    · rw [if_neg hz] at h; cases h; exact hz
theorem valid_of {k : Nat → Knot} {n : Nat} {d : Int} (h : ctErr k n d = 0) : 0 < n ∧ n ≤ 12 ∧ (∀ i, i < n → knotErr k i = 0) ∧ (0 ≤ d ∧ d ≤ 1000) := by
  unfold ctErr ctRes at h
  by_cases h0 : n = 0
  · rw [if_pos h0] at h; cases h
  · rw [if_neg h0] at h
    by_cases h12 : 12 < n
    · rw [if_pos h12] at h; cases h
    · rw [if_neg h12] at h
      cases hc : ctFrom k 0 n with
      | some q => rw [hc] at h; exact absurd h (ctFrom_some hc)
      | none =>
        rw [hc] at h
        refine ⟨by omega, by omega, fun i hi => ctFrom_none hc i (Nat.zero_le _) (by omega), ?_⟩
        cases hd : wi d 0 1000
        · simp [hd] at h
        · exact wi_t.1 hd
theorem knot_step {k : Nat → Knot} {i : Nat} (h : knotErr k i = 0) (h0 : 0 < i) : 0 < (k i).t - (k (i - 1)).t ∧ (k i).t - (k (i - 1)).t ≤ 10000 ∧
    psum (k i).x (k i).y (k i).z (k (i - 1)).x (k (i - 1)).y (k (i - 1)).z 3 ≤ ((k i).t - (k (i - 1)).t) * ((k i).t - (k (i - 1)).t) := by
  have hok := knotErr_ok h
  unfold knotErr at h
  rw [if_neg (by simpa using hok), if_neg (by omega)] at h
  by_cases h9 : (k i).t - (k (i - 1)).t ≤ 0
  · rw [if_pos h9] at h; cases h
  · rw [if_neg h9] at h
    by_cases h14 : 10000 < (k i).t - (k (i - 1)).t
    · rw [if_pos h14] at h; cases h
    · rw [if_neg h14] at h
      refine ⟨by omega, by omega, ?_⟩
      unfold brk at h
      by_cases hb : ((k i).t - (k (i - 1)).t) * ((k i).t - (k (i - 1)).t) < psum (k i).x (k i).y (k i).z (k (i - 1)).x (k (i - 1)).y (k (i - 1)).z 3
      · rw [if_pos hb] at h; cases h
      · omega
theorem mIdx_spec {k : Nat → Knot} {n : Nat} {time : Int} (hn : 0 < n) (h : outside time k n = false) : mIdx k n time < n ∧ time ≤ (k (mIdx k n time)).t ∧ (∀ j, j < mIdx k n time → (k j).t < time) ∧ (k 0).t ≤ time := by
  have hi : wi time (k 0).t (k (n - 1)).t = true := by unfold outside at h; simpa using h
  obtain ⟨h1, h2⟩ := wi_t.1 hi
  unfold mIdx
  cases hf : (List.range n).find? fun i => decide (time ≤ (k i).t) with
  | none =>
    rw [List.find?_range_eq_none] at hf
    have := hf (n - 1) (by omega)
    simp at this
    omega
  | some m =>
    rw [List.find?_range_eq_some] at hf
    obtain ⟨a, b, c⟩ := hf
    simp only [Option.getD_some]
    refine ⟨by simpa using b, by simpa using a, fun j hj => ?_, h1⟩
    have := c j hj
    simp at this
    omega
/-- A place of a valid track is within the limits. -/
def Plc.ok (p : Plc) : Prop := (1 ≤ p.n ∧ p.n ≤ 10000) ∧ (-10000000000 ≤ p.x ∧ p.x ≤ 10000000000) ∧ (-10000000000 ≤ p.y ∧ p.y ≤ 10000000000) ∧ (-10000000000 ≤ p.z ∧ p.z ≤ 10000000000)
theorem comb_bd {a b p q n : Int} (h1 : -1000000 ≤ a) (h2 : a ≤ 1000000) (h3 : -1000000 ≤ b) (h4 : b ≤ 1000000) (hp : 0 ≤ p) (hq : 0 ≤ q) (hn : p + q = n) (hn2 : n ≤ 10000) : -10000000000 ≤ a * p + b * q ∧ a * p + b * q ≤ 10000000000 := by
  have e1 := mul_bd (T := p) h1 h2 hp (Int.le_refl _) (by decide)
  have e2 := mul_bd (T := q) h3 h4 hq (Int.le_refl _) (by decide)
  omega
theorem plc_ok {k : Nat → Knot} {n : Nat} {d time : Int} (hv : ctErr k n d = 0) (h : outside time k n = false) : (plc k n time).ok := by
  obtain ⟨hn, hn2, hk, hd⟩ := valid_of hv
  obtain ⟨m1, m2, m3, m4⟩ := mIdx_spec hn h
  unfold plc
  generalize mIdx k n time = m at *
  obtain ⟨ot, ox, oy, oz⟩ := knotErr_ok (hk m m1)
  simp only
  by_cases he : (k m).t = time
  · rw [if_pos he]
    exact ⟨⟨by simp, by simp⟩, ⟨by simp; omega, by simp; omega⟩, ⟨by simp; omega, by simp; omega⟩, ⟨by simp; omega, by simp; omega⟩⟩
  · rw [if_neg he]
    have h0 : 0 < m := by
      rcases Nat.eq_zero_or_pos m with h0 | h0
      · subst h0; omega
      · exact h0
    obtain ⟨pt, px, py, pz⟩ := knotErr_ok (hk (m - 1) (by omega))
    obtain ⟨s1, s2, _⟩ := knot_step (hk m m1) h0
    have m5 := m3 (m - 1) (by omega)
    exact ⟨⟨by simp; omega, by simp; omega⟩, comb_bd px.1 px.2 ox.1 ox.2 (by omega) (by omega) (n := (k m).t - (k (m - 1)).t) (by omega) (by omega), comb_bd py.1 py.2 oy.1 oy.2 (by omega) (by omega) (n := (k m).t - (k (m - 1)).t) (by omega) (by omega), comb_bd pz.1 pz.2 oz.1 oz.2 (by omega) (by omega) (n := (k m).t - (k (m - 1)).t) (by omega) (by omega)⟩
theorem placeAt_any (b off n c : Nat) (d time : Int) (w : World) (k : Nat → Knot) (hk : KAt w b off n k) (hv : ctErr k n d = 0) (h : outside time k n = false) :
    Calls Tryz.prog 32 #[.agg #[.slice (some ⟨b, off, none⟩) n c, .int .i64 d], .int .i64 time] w fun e w' => e = .returned (.agg #[.int .i64 (plc k n time).x, .int .i64 (plc k n time).y, .int .i64 (plc k n time).z, .int .i64 (plc k n time).n]) ∧ Below w.heap.size w w' := by
  obtain ⟨hn, hn2, hkk, hd⟩ := valid_of hv
  obtain ⟨m1, m2, m3, m4⟩ := mIdx_spec hn h
  unfold plc
  generalize mIdx k n time = m at *
  simp only
  by_cases he : (k m).t = time
  · rw [if_pos he]
    exact placeAt_eq b off n c d time w (fun i => (k i).t) (fun i => (k i).x) (fun i => (k i).y) (fun i => (k i).z) m (by omega) hk.1 hk.2 m1 he.symm m3
  · rw [if_neg he]
    have h0 : 0 < m := by
      rcases Nat.eq_zero_or_pos m with h0 | h0
      · subst h0; omega
      · exact h0
    have s := knot_step (hkk m m1) h0
    exact placeAt_lt b off n c d time w (fun i => (k i).t) (fun i => (k i).x) (fun i => (k i).y) (fun i => (k i).z) m (by omega) hk.1 hk.2 m1 h0 (by omega) m3 (knotErr_ok (hkk (m - 1) (by omega))).1.1 (knotErr_ok (hkk m m1)).1.2 s.2.1
      (fun i hi => (knotErr_ok (hkk i hi)).2.1) (fun i hi => (knotErr_ok (hkk i hi)).2.2.1) (fun i hi => (knotErr_ok (hkk i hi)).2.2.2)
end Go.Proofs.YtjncjoaohonmjaaGreat
namespace Go.Proofs.YtjncjoaohonmjaaGreat
open Go.RowKit Go.Shelf Go.Sort
attribute [local go_sem] idx3_0 idx3_1 idx3_2 old1 fro1 old2 fro2 old3 fro3 old4 fro4 old5 fro5 old6 fro6 old7 fro7 old8 fro8 old9 fro9 old10 fro10 old11 fro11 old12 fro12
/-- A track as a value: where its knots lie, if any. -/
structure TV where
  a : Option Addr
  n : Nat
  c : Nat
  k : Nat → Knot
  d : Int
def TV.At (t : TV) (w : World) : Prop := KA w t.a t.n t.k ∧ t.n ≤ 9223372036854775807
def TV.err (t : TV) : Int := ctErr t.k t.n t.d
theorem TV.At.below {t : TV} {w w' : World} (h : t.At w) (hb : Below w.heap.size w w') : t.At w' := ⟨fun h0 => by
  obtain ⟨b, off, e, hk⟩ := h.1 h0
  exact ⟨b, off, e, hk.below hb hk.1⟩, h.2⟩
theorem TV.At.below' {t : TV} {w w' : World} {B : Nat} (h : t.At w) (hb : Below B w w') (hB : w.heap.size ≤ B) : t.At w' := h.below (hb.mono hB)
theorem TV.valid {t : TV} {w : World} (h : t.At w) (he : t.err = 0) : ∃ b off, t.a = some ⟨b, off, none⟩ ∧ (Trk.mk b off t.n t.c t.k t.d).At w := by
  obtain ⟨h0, h12, _⟩ := valid_of he
  obtain ⟨b, off, e, hk⟩ := h.1 h0
  exact ⟨b, off, e, h0, by show t.n ≤ 100; omega, hk⟩
def timesErr (A B : TV) (time : Int) : Int := if outside time A.k A.n || outside time B.k B.n then 2 else 0
def bothErr (A B : TV) : Int := if A.err = 0 then B.err else A.err
def distErr (A B : TV) (time : Int) : Int := if bothErr A B = 0 then timesErr A B time else bothErr A B
def CK3 (W : World) (L p1 p2 q1 q2 s t TB : Nat) (A B : TV) (time : Int) : Prop :=
  (W.cell? ⟨L, 0, none⟩ = some (.func (.func 63) #[] #[.pointer (some ⟨p1, 0, none⟩)]) ∧ W.cell? ⟨L, 1, none⟩ = some (.func (.func 63) #[] #[.pointer (some ⟨p2, 0, none⟩)]) ∧
   W.cell? ⟨L, 2, none⟩ = some (.func (.func 97) #[] #[.pointer (some ⟨q1, 0, none⟩), .pointer (some ⟨q2, 0, none⟩)])) ∧
  (W.cell? ⟨p1, 0, none⟩ = some (.slice A.a A.n A.c) ∧ W.cell? ⟨p1, 1, none⟩ = some (.int .i64 A.d)) ∧ (W.cell? ⟨p2, 0, none⟩ = some (.slice B.a B.n B.c) ∧ W.cell? ⟨p2, 1, none⟩ = some (.int .i64 B.d)) ∧
  (W.cell? ⟨q1, 0, none⟩ = some (.func (.func 65) #[] #[.pointer (some ⟨s, 0, none⟩), .pointer (some ⟨t, 0, none⟩)]) ∧ W.cell? ⟨q2, 0, none⟩ = some (.int .i64 2)) ∧
  (W.cell? ⟨s, 0, none⟩ = some (.slice (some ⟨TB, 0, none⟩) 2 2) ∧ W.cell? ⟨t, 0, none⟩ = some (.int .i64 time)) ∧
  (W.cell? ⟨TB, 0, none⟩ = some (.slice A.a A.n A.c) ∧ W.cell? ⟨TB, 1, none⟩ = some (.int .i64 A.d) ∧ W.cell? ⟨TB, 2, none⟩ = some (.slice B.a B.n B.c) ∧ W.cell? ⟨TB, 3, none⟩ = some (.int .i64 B.d))
theorem check3_any (A B : TV) (time : Int) (L p1 p2 q1 q2 s t TB : Nat) (W : World) (hA : A.At W) (hB : B.At W) (h : CK3 W L p1 p2 q1 q2 s t TB A B time) :
    Calls Tryz.prog 29 #[.slice (some ⟨L, 0, none⟩) 3 3] W fun e w' => e = .returned (.int .i64 (distErr A B time)) ∧ Below W.heap.size W w' := by
  obtain ⟨⟨l0, l1, l2⟩, ⟨a0, a1⟩, ⟨b0, b1⟩, ⟨c0, c1⟩, ⟨s0, t0⟩, ⟨e0, e1, e2, e3⟩⟩ := h
  have hr : ferr (fun i => if i = 0 then A.err else if i = 1 then B.err else timesErr A B time) 0 3 = distErr A B time := by
    simp only [ferr, distErr, bothErr, if_true]
    by_cases hA0 : A.err = 0
    · simp [hA0]
      by_cases hB0 : B.err = 0
      · simp [hB0]
        intro h; exact h.symm
      · simp [hB0]
    · simp [hA0]
  rw [← hr]
  refine firstError_any L 3 (fun i => if i = 0 then 63 else if i = 1 then 63 else 97) (fun i => if i = 0 then #[.pointer (some ⟨p1, 0, none⟩)] else if i = 1 then #[.pointer (some ⟨p2, 0, none⟩)] else #[.pointer (some ⟨q1, 0, none⟩), .pointer (some ⟨q2, 0, none⟩)])
    (fun i => if i = 0 then A.err else if i = 1 then B.err else timesErr A B time) W (by omega) (lt_of l0) ?_ ?_ ?_
  · intro i hi
    rcases (by omega : i = 0 ∨ i = 1 ∨ i = 2) with rfl | rfl | rfl
    · exact l0
    · exact l1
    · exact l2
  · intro i hi
    rcases (by omega : i = 0 ∨ i = 1 ∨ i = 2) with rfl | rfl | rfl
    · exact (enters_of Tryz.func63 (by kernel_rfl) rfl)
    · exact (enters_of Tryz.func63 (by kernel_rfl) rfl)
    · exact (enters_of Tryz.func97 (by kernel_rfl) rfl)
  · intro i w1 hi hz hb
    rcases (by omega : i = 0 ∨ i = 1 ∨ i = 2) with rfl | rfl | rfl
    · exact trackCheck1_any A.a A.n A.c p1 A.d w1 A.k hA.2 (hA.below hb).1 (keep hb a0) (keep hb a1)
    · exact trackCheck1_any B.a B.n B.c p2 B.d w1 B.k hB.2 (hB.below hb).1 (keep hb b0) (keep hb b1)
    · have hA0 : A.err = 0 := hz 0 (by omega)
      have hB0 : B.err = 0 := hz 1 (by omega)
      obtain ⟨ba, oa, ea, ha⟩ := TV.valid (hA.below hb) hA0
      obtain ⟨bb, ob, eb, hbb⟩ := TV.valid (hB.below hb) hB0
      rw [ea] at e0
      rw [eb] at e2
      have hc := timeCheck1_any 2 TB s t (fun i => if i = 0 then ⟨ba, oa, A.n, A.c, A.k, A.d⟩ else ⟨bb, ob, B.n, B.c, B.k, B.d⟩) time w1 (by omega) (keep hb s0) (keep hb t0) (lt_of (keep hb e0)) (lt_of (keep hb t0))
        (fun i hi => by
          rcases (by omega : i = 0 ∨ i = 1) with rfl | rfl
          · exact ⟨keep hb e0, keep hb e1⟩
          · exact ⟨keep hb e2, keep hb e3⟩)
        (fun i hi => by
          rcases (by omega : i = 0 ∨ i = 1) with rfl | rfl
          · exact ha
          · exact hbb)
      have hreq := require1_any q1 q2 65 #[.pointer (some ⟨s, 0, none⟩), .pointer (some ⟨t, 0, none⟩)] 2 _ w1 (keep hb c0) (keep hb c1) (lt_of (keep hb c1)) (enters_of Tryz.func65 (by kernel_rfl) rfl) hc
      refine hreq.mono ?_
      rintro e w' ⟨rfl, hw⟩
      refine ⟨ret_int ?_, hw⟩
      simp only [timesErr]
      simp [List.range, List.range.loop]
      cases outside time A.k A.n <;> cases outside time B.k B.n <;> simp
end Go.Proofs.YtjncjoaohonmjaaGreat
