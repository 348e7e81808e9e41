/- The statement TopPathLightTimesSaid: whatever the pulse (two tracks, doubts, shifts and a time), the law TopPathLightTimes returns true, and its argument reads afterwards as before. -/
import Derived.Test.YtmhcmiajikffpaaB27
import Derived.Test.YtmhcmiajikffpaaB19
import Derived.Test.YtmhcmiajikffpaaB17
import Derived.Test.YtmhcmiajikffpaaB21
import Derived.ProofKit
import Derived.OpenShut
import Derived.ShutString
import Derived.ChangeOld
import Derived.Below
import Derived.Lib.SmallJoins
import Derived.Deep.Slices
import Derived.SizedLaws
namespace Go.Proofs.Ytmhcmiajikffpaa
open Go.RowKit Go.Shelf Go.Sort
attribute [local go_sem] idx3_0 idx3_1 idx3_2 old1 fro1 old2 fro2 old3 fro3 old4 fro4 old5 fro5 old6 fro6 old7 fro7 old8 fro8 old9 fro9 old10 fro10 old11 fro11 old12 fro12
theorem tl_rv {A B : TV} (eA : A.err = 0) (eB : B.err = 0) (x : Int) : rvE A B x = 0 ∨ rvE A B x = 12 ∨ rvE A B x = 2 := by
  have hb : bothErr A B = 0 := by
    unfold bothErr
    rw [if_pos eA]
    exact eB
  have hd : distErr A B x = 0 ∨ distErr A B x = 2 := by
    unfold distErr
    rw [if_pos hb]
    unfold timesErr
    split
    · exact Or.inr rfl
    · exact Or.inl rfl
  rcases hd with h | h
  · unfold rvE
    rw [if_pos h]
    split
    · exact Or.inr (Or.inl rfl)
    · exact Or.inl rfl
  · unfold rvE
    rw [if_neg (by omega)]
    exact Or.inr (Or.inr h)
theorem tl_rv0 {A B : TV} {x : Int} (h : distErr A B x = 0) : rvE A B x = 0 ∨ rvE A B x = 12 := by
  unfold rvE
  rw [if_pos h]
  split <;> simp
theorem tl_trip {A B : TV} (eA : A.err = 0) (eB : B.err = 0) {x : Int} (h : rvE A B x = 0) : tripE A B x = 0 ∨ tripE A B x = 12 ∨ tripE A B x = 2 := by
  unfold tripE
  rw [if_pos h]
  split
  · exact tl_rv eB eA _
  · exact tl_rv eB eA _
theorem tl_sh {x y z d : Int} (h : shIn x y z d = true) : (-d ≤ x ∧ x ≤ d) ∧ (-d ≤ y ∧ y ≤ d) ∧ (-d ≤ z ∧ z ≤ d) := by
  unfold shIn at h
  rw [Bool.and_eq_true, Bool.and_eq_true] at h
  exact ⟨wi_t.1 h.1.1, wi_t.1 h.1.2, wi_t.1 h.2⟩
theorem topLight_any (A B : Option Addr) (na nb ca cb : Nat) (da db e0 e1 x0 y0 z0 x1 y1 z1 s : Int) (ka kb : Nat → Knot) (w : World) (hna : na ≤ 4398046510976) (hnb : nb ≤ 4398046510976) (hA0 : A = none → na = 0 ∧ ca = 0) (hB0 : B = none → nb = 0 ∧ cb = 0) (hA : KA w A na ka) (hB : KA w B nb kb) :
    Calls Try.prog 5 #[.agg #[.slice A na ca, .int .i64 da, .slice B nb cb, .int .i64 db, .int .i64 e0, .int .i64 e1, .int .i64 x0, .int .i64 y0, .int .i64 z0, .int .i64 x1, .int .i64 y1, .int .i64 z1, .int .i64 s]] w fun e w' => e = .returned (.bool true) ∧ Below w.heap.size w w' := by
  have Fa := fun W X cx => few_any X na cx 0 W (by omega)
  have Fb := fun W X cx => few_any X nb cx 0 W (by omega)
  by_cases h1 : na ≤ 14
  case neg =>
    rw [show decide ((na : Int) ≤ 14) = false by rw [decide_eq_false_iff_not]; omega] at Fa
    exact tp_e0 A B na nb ca cb da db e0 e1 x0 y0 z0 x1 y1 z1 s ka kb w hna hnb hA0 hB0 hA hB Fa
  rw [show decide ((na : Int) ≤ 14) = true by rw [decide_eq_true_eq]; omega] at Fa
  by_cases h2 : nb ≤ 14
  case neg =>
    rw [show decide ((nb : Int) ≤ 14) = false by rw [decide_eq_false_iff_not]; omega] at Fb
    exact tp_e1 A B na nb ca cb da db e0 e1 x0 y0 z0 x1 y1 z1 s ka kb w hna hnb hA0 hB0 hA hB Fa Fb
  rw [show decide ((nb : Int) ≤ 14) = true by rw [decide_eq_true_eq]; omega] at Fb
  have BE := fun W X cx Y cy (a : KA W X na ka) (b : KA W Y nb kb) => bothErr_any X Y na cx nb cy 0 0 ka kb W (by omega) (by omega) a b
  by_cases h3 : (if ctErr ka na 0 = 0 then ctErr kb nb 0 else ctErr ka na 0) = 0
  case neg =>
    exact tp_e2 A B na nb ca cb da db e0 e1 x0 y0 z0 x1 y1 z1 s ka kb w hna hnb hA0 hB0 hA hB Fa Fb BE h3
  rw [h3] at BE
  have a0 : ctErr ka na 0 = 0 := by
    rcases Decidable.em (ctErr ka na 0 = 0) with z | z
    · exact z
    · rw [if_neg z] at h3; exact h3
  have b0 : ctErr kb nb 0 = 0 := by rw [if_pos a0] at h3; exact h3
  clear h3
  obtain ⟨na0, na12, aK, _⟩ := valid_of a0
  obtain ⟨nb0, nb12, bK, _⟩ := valid_of b0
  rcases Bool.eq_false_or_eq_true (wi e0 0 1000) with v0 | v0
  case inr =>
    exact tp_e3 A B na nb ca cb da db e0 e1 x0 y0 z0 x1 y1 z1 s ka kb w hna hnb hA0 hB0 hA hB Fa Fb BE v0
  rcases Bool.eq_false_or_eq_true (wi e1 0 1000) with v1 | v1
  case inr =>
    exact tp_e4 A B na nb ca cb da db e0 e1 x0 y0 z0 x1 y1 z1 s ka kb w hna hnb hA0 hB0 hA hB Fa Fb BE v0 v1
  have d0 := wi_t.1 v0
  have d1 := wi_t.1 v1
  have W0 := fun W => pathWithin_any x0 y0 z0 e0 d0.1 d0.2 W
  have W1 := fun W => pathWithin_any x1 y1 z1 e1 d1.1 d1.2 W
  rcases Bool.eq_false_or_eq_true (shIn x0 y0 z0 e0) with s0 | s0
  case inr =>
    rw [s0] at W0
    exact tp_e5 A B na nb ca cb da db e0 e1 x0 y0 z0 x1 y1 z1 s ka kb w hna hnb hA0 hB0 hA hB Fa Fb BE v0 v1 W0
  rw [s0] at W0
  rcases Bool.eq_false_or_eq_true (shIn x1 y1 z1 e1) with s1 | s1
  case inr =>
    rw [s1] at W1
    exact tp_e6 A B na nb ca cb da db e0 e1 x0 y0 z0 x1 y1 z1 s ka kb w hna hnb hA0 hB0 hA hB Fa Fb BE v0 v1 W0 W1
  rw [s1] at W1
  have TE : ∀ W X cx Y cy, KA W X na ka → KA W Y nb kb → Calls Try.prog 11 #[.agg #[.slice X na cx, .int .i64 0], .agg #[.slice Y nb cy, .int .i64 0], .int .i64 s] W fun e w' => e = .returned (.int .i64 (if outside s ka na || outside s kb nb then 2 else 0)) ∧ Below W.heap.size W w' := by
    intro W X cx Y cy a b
    obtain ⟨p, o, rfl, k1⟩ := a na0
    obtain ⟨p', o', rfl, k2⟩ := b nb0
    exact timesErr_any p o p' o' na cx nb cy 0 0 s ka kb W na0 (by omega) nb0 (by omega) k1 k2
  by_cases h5 : (if outside s ka na || outside s kb nb then (2 : Int) else 0) = 0
  case neg =>
    exact tp_e7 A B na nb ca cb da db e0 e1 x0 y0 z0 x1 y1 z1 s ka kb w hna hnb hA0 hB0 hA hB Fa Fb BE v0 v1 W0 W1 TE h5
  rw [h5] at TE
  obtain ⟨oA, oB⟩ : outside s ka na = false ∧ outside s kb nb = false := by
    revert h5
    cases outside s ka na <;> cases outside s kb nb <;> simp
  clear h5
  obtain ⟨i0, i1, i2⟩ := tl_sh s0
  obtain ⟨j0, j1, j2⟩ := tl_sh s1
  have SA := fun W X cx (a : KA W X na ka) => shifted_new X na cx x0 y0 z0 e0 ka W na0 na12 a (fun i hi => (knotErr_ok (aK i hi)).2) (by omega) (by omega) (by omega)
  have SB := fun W X cx (a : KA W X nb kb) => shifted_new X nb cx x1 y1 z1 e1 kb W nb0 nb12 a (fun i hi => (knotErr_ok (bK i hi)).2) (by omega) (by omega) (by omega)
  have BC := fun W X cx Y cy (a : KA W X na (shK ka x0 y0 z0)) (b : KA W Y nb (shK kb x1 y1 z1)) => bothErr_any X Y na cx nb cy e0 e1 (shK ka x0 y0 z0) (shK kb x1 y1 z1) W (by omega) (by omega) a b
  by_cases h8 : (if ctErr (shK ka x0 y0 z0) na e0 = 0 then ctErr (shK kb x1 y1 z1) nb e1 else ctErr (shK ka x0 y0 z0) na e0) = 0
  case neg =>
    exact tp_e8 A B na nb ca cb da db e0 e1 x0 y0 z0 x1 y1 z1 s ka kb w hna hnb hA0 hB0 hA hB _ _ Fa Fb BE v0 v1 W0 W1 TE SA SB BC h8
  rw [h8] at BC
  have c0 : ctErr (shK ka x0 y0 z0) na e0 = 0 := by
    rcases Decidable.em (ctErr (shK ka x0 y0 z0) na e0 = 0) with z | z
    · exact z
    · rw [if_neg z] at h8; exact h8
  have d0' : ctErr (shK kb x1 y1 z1) nb e1 = 0 := by rw [if_pos c0] at h8; exact h8
  clear h8
  have EA : (TV.mk none na 0 ka 0).err = 0 := a0
  have EB : (TV.mk none nb 0 kb 0).err = 0 := b0
  have EC : (TV.mk none na 0 (shK ka x0 y0 z0) e0).err = 0 := c0
  have ED : (TV.mk none nb 0 (shK kb x1 y1 z1) e1).err = 0 := d0'
  have KA1 : Encl (TV.mk none na 0 ka 0).t (TV.mk none na 0 (shK ka x0 y0 z0) e0).t := ⟨⟨x0, y0, z0, rfl, i0, i1, i2⟩, rfl, rfl⟩
  have KB1 : Encl (TV.mk none nb 0 kb 0).t (TV.mk none nb 0 (shK kb x1 y1 z1) e1).t := ⟨⟨x1, y1, z1, rfl, j0, j1, j2⟩, rfl, rfl⟩
  have hd1 : distErr (TV.mk none na 0 ka 0) (TV.mk none nb 0 kb 0) s = 0 := rvb_0 EA EB (te_in oA oB)
  have hd2 : distErr (TV.mk none na 0 (shK ka x0 y0 z0) e0) (TV.mk none nb 0 (shK kb x1 y1 z1) e1) s = 0 := rvb_0 EC ED (te_in oA oB)
  have q1 := enc_dist (t := s) KA1 KB1 ⟨EA, oA⟩ ⟨EB, oB⟩
  have q2 := fun h => enc_recv (s := s) KA1 KB1 EA EB h
  have q3 := fun h => enc_trip (s := s) KA1 KB1 EA EB h
  refine tp_main A B na nb ca cb da db e0 e1 x0 y0 z0 x1 y1 z1 s ka kb w hna hnb hA0 hB0 hA hB na0 nb0 na12 nb12 (shK ka x0 y0 z0) (shK kb x1 y1 z1)
    (dsLo (TV.mk none na 0 ka 0) (TV.mk none nb 0 kb 0) s) (dsHi (TV.mk none na 0 ka 0) (TV.mk none nb 0 kb 0) s)
    (dsLo (TV.mk none na 0 (shK ka x0 y0 z0) e0) (TV.mk none nb 0 (shK kb x1 y1 z1) e1) s) (dsHi (TV.mk none na 0 (shK ka x0 y0 z0) e0) (TV.mk none nb 0 (shK kb x1 y1 z1) e1) s)
    (rvLo (TV.mk none na 0 (shK ka x0 y0 z0) e0) (TV.mk none nb 0 (shK kb x1 y1 z1) e1) s) (rvHi (TV.mk none na 0 (shK ka x0 y0 z0) e0) (TV.mk none nb 0 (shK kb x1 y1 z1) e1) s) (rvE (TV.mk none na 0 (shK ka x0 y0 z0) e0) (TV.mk none nb 0 (shK kb x1 y1 z1) e1) s)
    (rvLo (TV.mk none na 0 ka 0) (TV.mk none nb 0 kb 0) s) (rvHi (TV.mk none na 0 ka 0) (TV.mk none nb 0 kb 0) s)
    (tripLo (TV.mk none na 0 (shK ka x0 y0 z0) e0) (TV.mk none nb 0 (shK kb x1 y1 z1) e1) s) (tripHi (TV.mk none na 0 (shK ka x0 y0 z0) e0) (TV.mk none nb 0 (shK kb x1 y1 z1) e1) s) (tripE (TV.mk none na 0 (shK ka x0 y0 z0) e0) (TV.mk none nb 0 (shK kb x1 y1 z1) e1) s)
    (tripLo (TV.mk none na 0 ka 0) (TV.mk none nb 0 kb 0) s) (tripHi (TV.mk none na 0 ka 0) (TV.mk none nb 0 kb 0) s)
    Fa Fb BE v0 v1 W0 W1 TE SA SB BC ?_ ?_ ?_ ?_ ?_ ?_ ?_ ?_ ?_ ?_ ?_ ?_
  · intro W X cx Y cy a b
    refine (distanceAt_n ⟨X, na, cx, ka, 0⟩ ⟨Y, nb, cy, kb, 0⟩ s W ⟨a, by show na ≤ _; omega⟩ ⟨b, by show nb ≤ _; omega⟩).mono ?_
    rintro e w' ⟨rfl, hb⟩
    exact ⟨by rw [show distErr ⟨X, na, cx, ka, 0⟩ ⟨Y, nb, cy, kb, 0⟩ s = 0 from hd1]; rfl, hb⟩
  · intro W X cx Y cy a b
    refine (distanceAt_n ⟨X, na, cx, shK ka x0 y0 z0, e0⟩ ⟨Y, nb, cy, shK kb x1 y1 z1, e1⟩ s W ⟨a, by show na ≤ _; omega⟩ ⟨b, by show nb ≤ _; omega⟩).mono ?_
    rintro e w' ⟨rfl, hb⟩
    exact ⟨by rw [show distErr ⟨X, na, cx, shK ka x0 y0 z0, e0⟩ ⟨Y, nb, cy, shK kb x1 y1 z1, e1⟩ s = 0 from hd2]; rfl, hb⟩
  · intro W X cx Y cy a b
    exact receivedAt_n ⟨X, na, cx, shK ka x0 y0 z0, e0⟩ ⟨Y, nb, cy, shK kb x1 y1 z1, e1⟩ s W ⟨a, by show na ≤ _; omega⟩ ⟨b, by show nb ≤ _; omega⟩
  · intro h W X cx Y cy a b
    refine (receivedAt_n ⟨X, na, cx, ka, 0⟩ ⟨Y, nb, cy, kb, 0⟩ s W ⟨a, by show na ≤ _; omega⟩ ⟨b, by show nb ≤ _; omega⟩).mono ?_
    rintro e w' ⟨rfl, hb⟩
    exact ⟨by rw [show rvE ⟨X, na, cx, ka, 0⟩ ⟨Y, nb, cy, kb, 0⟩ s = 0 from (q2 h).1]; rfl, hb⟩
  · intro _ W X cx Y cy a b
    exact roundTrip_n ⟨X, na, cx, shK ka x0 y0 z0, e0⟩ ⟨Y, nb, cy, shK kb x1 y1 z1, e1⟩ s W ⟨a, by show na ≤ _; omega⟩ ⟨b, by show nb ≤ _; omega⟩
  · intro _ h W X cx Y cy a b
    refine (roundTrip_n ⟨X, na, cx, ka, 0⟩ ⟨Y, nb, cy, kb, 0⟩ s W ⟨a, by show na ≤ _; omega⟩ ⟨b, by show nb ≤ _; omega⟩).mono ?_
    rintro e w' ⟨rfl, hb⟩
    exact ⟨by rw [show tripE ⟨X, na, cx, ka, 0⟩ ⟨Y, nb, cy, kb, 0⟩ s = 0 from (q3 h).1]; rfl, hb⟩
  · unfold dsLo
    rw [if_pos hd1, if_pos hd2]
    exact q1.1
  · unfold dsHi
    rw [if_pos hd1, if_pos hd2]
    exact q1.2
  · exact tl_rv0 hd2
  · intro h
    obtain ⟨_, a, _, b⟩ := q2 h
    exact ⟨a, b⟩
  · intro h
    exact tl_trip EC ED h
  · intro _ h
    exact (q3 h).2
end Go.Proofs.Ytmhcmiajikffpaa
namespace Go.Proofs.Ytmhcmiajikffpaa
open Go.ChangeShapes Go.WideShapes Go.ChangeAt Go.RowKit Go.Joins Go.Deep
theorem owned : ownKnob Try.prog.godebug = none := by kernel_rfl
theorem laidAll : laidOutB Try.prog = true := by kernel_rfl
theorem cells1 : Try.prog.cellsOf 3 = 1 := by kernel_rfl
theorem cells3 : Try.prog.cellsOf 105 = 3 := by kernel_rfl
theorem cells4 : Try.prog.cellsOf 107 = 4 := by kernel_rfl
theorem cells2 : Try.prog.cellsOf 24 = 2 := by kernel_rfl
instance : Inhabited Knot := ⟨⟨0, 0, 0, 0⟩⟩
set_option maxRecDepth 100000 in
theorem read_point {H : Type} {enc : TypeId × Value → H} {w : World} {base : Nat} {sp : Nat → Bool} {held : Bool} {n : Nat} {c0 c1 c2 : Value} {x : DataW H × List MemPlace} (h : DataW.trod enc Try.prog w base sp held n 105 [c0, c1, c2] = some x) : ∃ a b c : Int, c0 = .int .i64 a ∧ c1 = .int .i64 b ∧ c2 = .int .i64 c := by
  obtain ⟨xs, m, _, _, hl, hlen, hg⟩ := DataW.trod_struct Try.underlying105 h
  match xs, hlen with
  | [y0, y1, y2], _ =>
    have h0 := hg 0 _ rfl
    have h1 := hg 1 _ rfl
    have h2 := hg 2 _ rfl
    simp [cells1] at h0 h1 h2
    obtain ⟨a, e0, _, _⟩ := DataW.trod_int Try.underlying3 h0
    obtain ⟨b, e1, _, _⟩ := DataW.trod_int Try.underlying3 h1
    obtain ⟨c, e2, _, _⟩ := DataW.trod_int Try.underlying3 h2
    simp at e0 e1 e2
    exact ⟨a, b, c, e0, e1, e2⟩
set_option maxRecDepth 100000 in
theorem read_knot {H : Type} {enc : TypeId × Value → H} {w : World} {base : Nat} {sp : Nat → Bool} {held : Bool} {n : Nat} {c0 c1 c2 c3 : Value} {x : DataW H × List MemPlace} (h : DataW.trod enc Try.prog w base sp held n 107 [c0, c1, c2, c3] = some x) : ∃ q : Knot, c0 = .int .i64 q.t ∧ c1 = .int .i64 q.x ∧ c2 = .int .i64 q.y ∧ c3 = .int .i64 q.z := by
  obtain ⟨xs, m, _, _, hl, hlen, hg⟩ := DataW.trod_struct Try.underlying107 h
  match xs, hlen with
  | [y0, y1], _ =>
    have h0 := hg 0 _ rfl
    have h1 := hg 1 _ rfl
    simp [cells1, cells3] at h0 h1
    obtain ⟨a, e0, _, _⟩ := DataW.trod_int Try.underlying3 h0
    obtain ⟨b, c, d, e1, e2, e3⟩ := read_point h1
    simp at e0
    exact ⟨⟨a, b, c, d⟩, e0, e1, e2, e3⟩
set_option maxRecDepth 100000 in
theorem open_track {H : Type} {enc : TypeId × Value → H} {w : World} {base : Nat} {sp : Nat → Bool} {held : Bool} {r : Reach} {b0 : Nat} {v : Value} {d : DataW H} {p : List MemPlace} (hv : Value.okWide Try.prog w r b0 24 v) (h : DataW.Trod enc Try.prog w base sp held 24 v d p) :
    ∃ (A : Option Addr) (n c : Nat) (k : Nat → Knot) (db : Int), v = .agg #[.slice A n c, .int .i64 db] ∧ n ≤ 9223372036854775807 ∧ (A = none → n = 0 ∧ c = 0) ∧ KA w A n k := by
  obtain ⟨c0, c1, y0, y1, m, rfl, _, _, hy0, hy1⟩ := open_agg2 Try.underlying24 (by kernel_rfl) cells2 hv h
  obtain ⟨db, e1, _, _⟩ := DataW.trod_int Try.underlying3 hy1
  simp at e1
  subst e1
  rcases open_slice Try.underlying22 hy0 with ⟨hcs, _⟩ | ⟨a, len, cap, m', n', D, Pl, hcs, _, hl, hm, hmm, _, hx⟩
  · simp at hcs
    subst hcs
    exact ⟨none, 0, 0, fun _ => default, db, rfl, by omega, fun _ => ⟨rfl, rfl⟩, fun h => absurd h (Nat.lt_irrefl 0)⟩
  · simp at hcs
    subst hcs
    rw [cells4] at hx
    have hlm : len ≤ m' := by rw [hmm]; split <;> omega
    have hq : ∀ i, i < len → ∃ q : Knot, w.cell? (a.add (i * 4)) = some (.int .i64 q.t) ∧ w.cell? ((a.add (i * 4)).add 1) = some (.int .i64 q.x) ∧ w.cell? ((a.add (i * 4)).add 2) = some (.int .i64 q.y) ∧ w.cell? ((a.add (i * 4)).add 3) = some (.int .i64 q.z) := by
      intro i hi
      obtain ⟨cs', g1, g2⟩ := hx i (by omega)
      obtain ⟨_, hlen, hc⟩ := World.cells?_some g1
      match cs', hlen with
      | [v0, v1, v2, v3], _ =>
        obtain ⟨q, rfl, rfl, rfl, rfl⟩ := read_knot g2
        have z0 := hc 0 (by omega)
        have z1 := hc 1 (by omega)
        have z2 := hc 2 (by omega)
        have z3 := hc 3 (by omega)
        refine ⟨q, ?_, z1, z2, z3⟩
        simpa [Addr.add] using z0
    obtain ⟨k, hk⟩ := choose_lt hq
    refine ⟨some a, len, cap, k, db, rfl, by unfold maxLen at hm; omega, fun h => (by cases h), fun h0 => ?_⟩
    obtain ⟨b, off, spot⟩ := a
    have hc := (hk 0 h0).1
    have hspot : spot = none := by simpa [Addr.add] using World.cell?_spot hc
    subst hspot
    have hc2 : w.cell? ⟨b, off, none⟩ = some (.int .i64 (k 0).t) := by simpa [Addr.add] using hc
    refine ⟨b, off, rfl, lt_of hc2, fun i hi => ?_⟩
    obtain ⟨z0, z1, z2, z3⟩ := hk i hi
    rw [addr_add] at z0 z1 z2 z3
    rw [addr_add] at z1 z2 z3
    exact ⟨z0, z1, z2, z3⟩
end Go.Proofs.Ytmhcmiajikffpaa
namespace Go.Proofs.Ytmhcmiajikffpaa
open Go.ChangeShapes Go.WideShapes Go.ChangeAt Go.RowKit Go.Joins Go.Deep
theorem cellsSl : Try.prog.cellsOf 22 = 1 := by kernel_rfl
set_option maxRecDepth 100000 in
theorem open_trackCells {H : Type} {enc : TypeId × Value → H} {w : World} {base : Nat} {sp : Nat → Bool} {held : Bool} {fuel : Nat} {c0 c1 : Value} {x : DataW H × List MemPlace} (h : DataW.trod enc Try.prog w base sp held fuel 24 [c0, c1] = some x) :
    ∃ (A : Option Addr) (n c : Nat) (k : Nat → Knot) (db : Int), c0 = .slice A n c ∧ c1 = .int .i64 db ∧ n ≤ 9223372036854775807 ∧ (A = none → n = 0 ∧ c = 0) ∧ KA w A n k := by
  obtain ⟨xs, m, _, _, hl, hlen, hg⟩ := DataW.trod_struct Try.underlying24 h
  match xs, hlen with
  | [y0, y1], _ =>
    have hy0 := hg 0 _ rfl
    have hy1 := hg 1 _ rfl
    simp [cells1, cellsSl] at hy0 hy1
    obtain ⟨db, e1, _, _⟩ := DataW.trod_int Try.underlying3 hy1
    simp at e1
    subst e1
    rcases open_slice Try.underlying22 hy0 with ⟨hcs, _⟩ | ⟨a, len, cap, m', n', D, Pl, hcs, _, hl, hm, hmm, _, hx⟩
    · simp at hcs
      subst hcs
      exact ⟨none, 0, 0, fun _ => default, db, rfl, rfl, by omega, fun _ => ⟨rfl, rfl⟩, fun h => absurd h (Nat.lt_irrefl 0)⟩
    · simp at hcs
      subst hcs
      rw [cells4] at hx
      have hlm : len ≤ m' := by rw [hmm]; split <;> omega
      have hq : ∀ i, i < len → ∃ q : Knot, w.cell? (a.add (i * 4)) = some (.int .i64 q.t) ∧ w.cell? ((a.add (i * 4)).add 1) = some (.int .i64 q.x) ∧ w.cell? ((a.add (i * 4)).add 2) = some (.int .i64 q.y) ∧ w.cell? ((a.add (i * 4)).add 3) = some (.int .i64 q.z) := by
        intro i hi
        obtain ⟨cs', g1, g2⟩ := hx i (by omega)
        obtain ⟨_, hlen, hc⟩ := World.cells?_some g1
        match cs', hlen with
        | [v0, v1, v2, v3], _ =>
          obtain ⟨q, rfl, rfl, rfl, rfl⟩ := read_knot g2
          have z0 := hc 0 (by omega)
          have z1 := hc 1 (by omega)
          have z2 := hc 2 (by omega)
          have z3 := hc 3 (by omega)
          refine ⟨q, ?_, z1, z2, z3⟩
          simpa [Addr.add] using z0
      obtain ⟨k, hk⟩ := choose_lt hq
      refine ⟨some a, len, cap, k, db, rfl, rfl, by unfold maxLen at hm; omega, fun h => (by cases h), fun h0 => ?_⟩
      obtain ⟨b, off, spot⟩ := a
      have hc := (hk 0 h0).1
      have hspot : spot = none := by simpa [Addr.add] using World.cell?_spot hc
      subst hspot
      have hc2 : w.cell? ⟨b, off, none⟩ = some (.int .i64 (k 0).t) := by simpa [Addr.add] using hc
      refine ⟨b, off, rfl, lt_of hc2, fun i hi => ?_⟩
      obtain ⟨z0, z1, z2, z3⟩ := hk i hi
      rw [addr_add] at z0 z1 z2 z3
      rw [addr_add] at z1 z2 z3
      exact ⟨z0, z1, z2, z3⟩
end Go.Proofs.Ytmhcmiajikffpaa
namespace Go.Proofs.Ytmhcmiajikffpaa
open Go.ChangeShapes Go.WideShapes Go.ChangeAt Go.RowKit Go.Joins Go.Deep
theorem cells13 : Try.prog.cellsOf 69 = 13 := by kernel_rfl
theorem cellsD : Try.prog.cellsOf 64 = 2 := by kernel_rfl
theorem cellsVs : Try.prog.cellsOf 67 = 6 := by kernel_rfl
theorem cellsVe : Try.prog.cellsOf 66 = 3 := by kernel_rfl
theorem bytesK : Try.prog.bytesOf 107 = 32 := by kernel_rfl
set_option maxRecDepth 100000 in
theorem track_room {H : Type} {enc : TypeId × Value → H} {w : World} {base : Nat} {sp : Nat → Bool} {held : Bool} {fuel : Nat} {A : Option Addr} {n c : Nat} {db : Int} {x : DataW H × List MemPlace} (h : DataW.trod enc Try.prog w base sp held fuel 24 [.slice A n c, .int .i64 db] = some x) (M : Nat)
    (hM : ∀ m ∈ x.1.weights Try.prog 24, m ≤ M) : n * 32 ≤ M := by
  obtain ⟨xs, m, _, hx, hl, hlen, hg⟩ := DataW.trod_struct Try.underlying24 h
  match xs, hlen with
  | [y0, y1], _ =>
    have hy0 := hg 0 _ rfl
    simp [cellsSl] at hy0
    have hs : ∀ m ∈ y0.1.weights Try.prog 22, m ≤ M := fun m hm => hM m (by
      rw [hx]
      simp only [DataW.weights, Try.underlying24]
      exact DataW.weights_mem_each (j := 0) rfl rfl m hm)
    rcases open_slice Try.underlying22 hy0 with ⟨hcs, _⟩ | ⟨a, len, cap, m', n', D, Pl, hcs, _, hl, hm, hmm, hx2, hx⟩
    · simp at hcs
      obtain ⟨_, rfl, _⟩ := hcs
      omega
    · simp at hcs
      obtain ⟨_, rfl, _⟩ := hcs
      have := hs ((n + (m' - n)) * 32) (by
        rw [hx2]
        simp [DataW.weights, Try.underlying22, bytesK])
      have h2 : n * 32 ≤ (n + (m' - n)) * 32 := Nat.mul_le_mul_right _ (by omega)
      omega
set_option maxRecDepth 100000 in
theorem read_vec {H : Type} {enc : TypeId × Value → H} {w : World} {base : Nat} {sp : Nat → Bool} {held : Bool} {n : Nat} {c0 c1 c2 : Value} {x : DataW H × List MemPlace} (h : DataW.trod enc Try.prog w base sp held n 66 [c0, c1, c2] = some x) : ∃ a b c : Int, c0 = .int .i64 a ∧ c1 = .int .i64 b ∧ c2 = .int .i64 c := by
  obtain ⟨xs, m, _, _, hl, hlen, hg⟩ := DataW.trod_struct Try.underlying66 h
  match xs, hlen with
  | [y0, y1, y2], _ =>
    have h0 := hg 0 _ rfl
    have h1 := hg 1 _ rfl
    have h2 := hg 2 _ rfl
    simp [cells1] at h0 h1 h2
    obtain ⟨a, e0, _, _⟩ := DataW.trod_int Try.underlying3 h0
    obtain ⟨b, e1, _, _⟩ := DataW.trod_int Try.underlying3 h1
    obtain ⟨c, e2, _, _⟩ := DataW.trod_int Try.underlying3 h2
    simp at e0 e1 e2
    exact ⟨a, b, c, e0, e1, e2⟩
set_option maxRecDepth 100000 in
theorem open_pulse {H : Type} {enc : TypeId × Value → H} {w : World} {base : Nat} {sp : Nat → Bool} {held : Bool} {r : Reach} {b0 : Nat} {v : Value} {d : DataW H} {p : List MemPlace} (hv : Value.okWide Try.prog w r b0 69 v) (h : DataW.Trod enc Try.prog w base sp held 69 v d p) (M : Nat) (hM : ∀ m ∈ d.weights Try.prog 69, m ≤ M) :
    ∃ (A B : Option Addr) (na nb ca cb : Nat) (ka kb : Nat → Knot) (da db e0 e1 x0 y0 z0 x1 y1 z1 s : Int), v = .agg #[.slice A na ca, .int .i64 da, .slice B nb cb, .int .i64 db, .int .i64 e0, .int .i64 e1, .int .i64 x0, .int .i64 y0, .int .i64 z0, .int .i64 x1, .int .i64 y1, .int .i64 z1, .int .i64 s] ∧
      (na * 32 ≤ M ∧ nb * 32 ≤ M) ∧ ((A = none → na = 0 ∧ ca = 0) ∧ (B = none → nb = 0 ∧ cb = 0)) ∧ KA w A na ka ∧ KA w B nb kb := by
  obtain ⟨cs, rfl, hsz⟩ : ∃ cs, v = .agg cs ∧ cs.size = Try.prog.cellsOf 69 := by
    simp only [Value.okWide, Try.underlying69] at hv
    obtain ⟨cs, h1, h2, _⟩ := hv
    exact ⟨cs, h1, h2⟩
  rw [cells13] at hsz
  obtain ⟨c0, c1, c2, c3, c4, c5, c6, c7, c8, c9, c10, c11, c12, rfl⟩ : ∃ c0 c1 c2 c3 c4 c5 c6 c7 c8 c9 c10 c11 c12, cs = #[c0, c1, c2, c3, c4, c5, c6, c7, c8, c9, c10, c11, c12] := by
    obtain ⟨l⟩ := cs
    match l, hsz with
    | [c0, c1, c2, c3, c4, c5, c6, c7, c8, c9, c10, c11, c12], _ => exact ⟨c0, c1, c2, c3, c4, c5, c6, c7, c8, c9, c10, c11, c12, rfl⟩
  obtain ⟨fuel, hf⟩ := h
  obtain ⟨xs, m, _, hx, hl, hlen, hg⟩ := DataW.trod_struct Try.underlying69 hf
  match xs, hlen with
  | [y0, y1, y2, y3, y4], _ =>
    have h0 := hg 0 _ rfl
    have h1 := hg 1 _ rfl
    have h2 := hg 2 _ rfl
    have h3 := hg 3 _ rfl
    have h4 := hg 4 _ rfl
    simp [cells1, cells2, cellsD, cellsVs, Value.cells] at h0 h1 h2 h3 h4
    simp only [Prod.mk.injEq] at hx
    have hs0 : ∀ m ∈ y0.1.weights Try.prog 24, m ≤ M := fun m hm => hM m (by
      rw [hx.1]
      simp only [DataW.weights, Try.underlying69]
      exact DataW.weights_mem_each (j := 0) rfl rfl m hm)
    have hs1 : ∀ m ∈ y1.1.weights Try.prog 24, m ≤ M := fun m hm => hM m (by
      rw [hx.1]
      simp only [DataW.weights, Try.underlying69]
      exact DataW.weights_mem_each (j := 1) rfl rfl m hm)
    obtain ⟨A, na, ca, ka, da, rfl, rfl, _, n2, n3⟩ := open_trackCells h0
    obtain ⟨B, nb, cb, kb, db, rfl, rfl, _, m2, m3⟩ := open_trackCells h1
    have w0 := track_room h0 M hs0
    have w1 := track_room h1 M hs1
    obtain ⟨e0, e1, rfl, rfl⟩ : ∃ e0 e1 : Int, c4 = .int .i64 e0 ∧ c5 = .int .i64 e1 := by
      obtain ⟨zs, _, _, _, _, hlz, hz⟩ := DataW.trod_array Try.underlying64 h2
      match zs, hlz with
      | [z0, z1], _ =>
        have t0 := hz 0 (by omega)
        have t1 := hz 1 (by omega)
        simp [cells1] at t0 t1
        obtain ⟨a, e0, _, _⟩ := DataW.trod_int Try.underlying3 t0
        obtain ⟨b, e1, _, _⟩ := DataW.trod_int Try.underlying3 t1
        simp at e0 e1
        exact ⟨a, b, e0, e1⟩
    obtain ⟨x0, y0', z0, x1, y1', z1, rfl, rfl, rfl, rfl, rfl, rfl⟩ : ∃ a b c d e f : Int, c6 = .int .i64 a ∧ c7 = .int .i64 b ∧ c8 = .int .i64 c ∧ c9 = .int .i64 d ∧ c10 = .int .i64 e ∧ c11 = .int .i64 f := by
      obtain ⟨zs, _, _, _, _, hlz, hz⟩ := DataW.trod_array Try.underlying67 h3
      match zs, hlz with
      | [z0, z1], _ =>
        have t0 := hz 0 (by omega)
        have t1 := hz 1 (by omega)
        simp [cellsVe] at t0 t1
        obtain ⟨a, b, c, e0, e1, e2⟩ := read_vec t0
        obtain ⟨d, e, f, e3, e4, e5⟩ := read_vec t1
        exact ⟨a, b, c, d, e, f, e0, e1, e2, e3, e4, e5⟩
    obtain ⟨s, es, _, _⟩ := DataW.trod_int Try.underlying3 h4
    simp at es
    subst es
    exact ⟨A, B, na, nb, ca, cb, ka, kb, da, db, e0, e1, x0, y0', z0, x1, y1', z1, s, rfl, ⟨w0, w1⟩, ⟨n2, m2⟩, n3, m3⟩
set_option maxRecDepth 100000 in
theorem topLight_lifted (os : Os) (started : os.Started) (H : Type) (enc : TypeId × Value → H) :
    ReturnsInHanded {} Try.checked os 5 .any (Rows.topPathLightTimesSpec.pre6 enc Try.prog Try.f5 Rows.topPathLightTimesRow.domain false) (Rows.topPathLightTimesSpec.post enc Try.prog Try.f5 false true false false) := by
  refine returnsInHanded_of_change_sized (C := Try.checked) owned started (by kernel_rfl) Try.func5
    (ChangeSpec.witness6 (enc := enc) (C := Try.checked) false ⟨#[], #[.agg #[.slice none 0 0, .int .i64 0, .slice none 0 0, .int .i64 0, .int .i64 0, .int .i64 0, .int .i64 0, .int .i64 0, .int .i64 0, .int .i64 0, .int .i64 0, .int .i64 0, .int .i64 0]], []⟩ 8 (by kernel_rfl) (by kernel_rfl) (by kernel_rfl) (by kernel_rfl)) ?_
  intro W base args ds gs before hval0 hW hcnd hsz _
  have hval : ∀ (j : Nat) t v, Try.f5.params[j]? = some t → args[j]? = some v → Value.okWide Try.prog W .any base t v := hval0
  have hW' := hW
  obtain ⟨p, q, hA0, hV, rfl, hfz, hnd⟩ := hW
  have hA : DataW.TrodAll enc Try.prog W 0 (fun _ => true) true Try.f5.params.toList args.toList ds p := hA0
  have hsz2 : (DataW.weightsEach Try.prog (Try.f5.params.toList ++ Rows.topPathLightTimesSpec.plain.varTypes Try.prog) (ds ++ gs)).all (· ≤ reachBytes) = true := hsz
  rw [Try.params5] at hA hval hsz2
  obtain ⟨v0, vs0, d0, ds0, p0, q0, hargs, rfl, rfl, h0, r0⟩ := trodAll_cons hA
  obtain ⟨rfl, rfl, rfl⟩ := trodAll_nil r0
  obtain rfl : args = #[v0] := by cases args; simp_all
  obtain ⟨rfl, rfl⟩ := trodVars_none hV
  have k0 := h0
  have lt0 : ∀ x ∈ p0, x.block < W.heap.size := by obtain ⟨m, hm⟩ := k0; exact DataW.trod_lt m _ _ _ hm
  have hM : ∀ m ∈ d0.weights Try.prog 69, m ≤ reachBytes := fun m hm => by
    have := List.all_eq_true.1 hsz2 m (DataW.weights_mem_each (j := 0) rfl rfl m hm)
    simpa using this
  obtain ⟨A, B, na, nb, ca, cb, ka, kb, da, db, e0, e1, x0, y0, z0, x1, y1, z1, s, rfl, ⟨n1, n2⟩, ⟨z1', z2'⟩, k1, k2⟩ := open_pulse (hval 0 69 v0 rfl rfl) h0 _ hM
  clear hA0 hval0
  simp only [reachBytes] at n1 n2
  refine (topLight_any A B na nb ca cb da db e0 e1 x0 y0 z0 x1 y1 z1 s ka kb W (by omega) (by omega) z1' z2' k1 k2).mono fun e W' ⟨he, bel⟩ => ?_
  subst he
  exact ⟨_, rfl, _, _, _, [], _, [], hW', trodAll_mk1 (shut_bool Try.underlying4 _), (trodAll_cons_mk (Below.trod laidAll (by kernel_rfl) (of_decide_eq_true (by kernel_rfl)) k0 bel lt0) trodAll_mk0), rfl, bel.frame _, fun h => by cases h⟩
theorem topLight_over : Rows.topPathLightTimesRow.holds Try.pinned (OpenSpec.ofChange Rows.topPathLightTimesSpec) :=
  OpenClaim.holds_of_wide 5 Try.f5 rfl rfl rfl rfl rfl rfl rfl ⟨by kernel_rfl, by kernel_rfl, by kernel_rfl, by kernel_rfl, by kernel_rfl⟩ rfl rfl rfl rfl rfl (by kernel_rfl) Try.func5 (by kernel_rfl)
    (of_decide_eq_true (by kernel_rfl)) (by unfold Func.isWrapper; first | (rw [if_pos (by decide +kernel)]; kernel_rfl) | (rw [if_neg (by decide +kernel)]; exact ⟨rfl, rfl⟩))
    (fun os started H enc _ => topLight_lifted os started H enc)
/-- THE STATEMENT. -/
theorem topLight_holds : Rows.TopPathLightTimesSaid := topLight_over
end Go.Proofs.Ytmhcmiajikffpaa
