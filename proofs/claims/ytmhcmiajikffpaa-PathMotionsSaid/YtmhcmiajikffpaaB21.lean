/- Helpers: the copy of a track. -/
import Derived.Test.YtmhcmiajikffpaaB20
import Derived.Test.YtmhcmiajikffpaaB17
import Derived.Test.YtmhcmiajikffpaaB15
import Derived.Deep.AppendLies
import Derived.Test.YtmhcmiajikffpaaB07
import Derived.Test.YtmhcmiajikffpaaB19
namespace Go.Proofs.Ytmhcmiajikffpaa
open Go.RowKit Go.Shelf Go.Sort
attribute [local go_sem] idx3_0 idx3_1 idx3_2 old1 fro1 old2 fro2 old3 fro3 old4 fro4 old5 fro5 old6 fro6 old7 fro7 old8 fro8 old9 fro9 old10 fro10 old11 fro11 old12 fro12
theorem infoKnot : (Try.prog.info? 107).map (fun i => (i.zero, i.size, i.bytes)) = some (some (.agg #[.int .i64 0, .int .i64 0, .int .i64 0, .int .i64 0]), 4, 32) := by kernel_rfl
theorem undKnots : Try.prog.underlying 22 = some (.slice 107) := by kernel_rfl
def fld (q : Knot) (r : Nat) : Value := if r = 0 then .int .i64 q.t else if r = 1 then .int .i64 q.x else if r = 2 then .int .i64 q.y else .int .i64 q.z
def knotsL (n : Nat) (k : Nat → Knot) : List Value := (List.range (n * 4)).map fun j => fld (k (j / 4)) (j % 4)
theorem knotsL_get {n : Nat} {k : Nat → Knot} {i r : Nat} (hi : i < n) (hr : r < 4) : (knotsL n k)[i * 4 + r]? = some (fld (k i) r) := by
  have h : i * 4 + r < n * 4 := by omega
  have e1 : (i * 4 + r) / 4 = i := by omega
  have e2 : (i * 4 + r) % 4 = r := by omega
  simp [knotsL, h, e1, e2]
theorem knots_news {w : World} {b off n : Nat} {k : Nat → Knot} (hk : KAt w b off n k) : ∀ j u, (knotsL n k)[j]? = some u → w.cell? ((⟨b, off, none⟩ : Addr).add j) = some u := by
  intro j u hu
  have hj : j < n * 4 := by
    have := (List.getElem?_eq_some_iff.1 hu).1
    simpa [knotsL] using this
  obtain ⟨i, r, hr, rfl⟩ : ∃ i r, r < 4 ∧ j = i * 4 + r := ⟨j / 4, j % 4, by omega, by omega⟩
  have hi : i < n := by omega
  rw [knotsL_get hi hr] at hu
  obtain ⟨c1, c2, c3, c4⟩ := hk.2 i hi
  rw [addr_add, ← hu]
  rcases (by omega : r = 0 ∨ r = 1 ∨ r = 2 ∨ r = 3) with rfl | rfl | rfl | rfl
  · exact c1
  · rw [show off + (i * 4 + 1) = off + i * 4 + 1 by omega]; exact c2
  · rw [show off + (i * 4 + 2) = off + i * 4 + 2 by omega]; exact c3
  · rw [show off + (i * 4 + 3) = off + i * 4 + 3 by omega]; exact c4
theorem own_knots {w : World} {base e n : Nat} {v : Value} {k : Nat → Knot} (h : w.ownsRow base e 4 v n (knotsL n k)) : v = .slice (sA v) n (sC v) ∧ KA w (sA v) n k := by
  obtain ⟨h1, h2⟩ := own_parts h
  refine ⟨h1, fun h0 => ?_⟩
  obtain ⟨h3, h4⟩ := h2 h0
  rw [h3] at h1
  rw [h1] at h
  have hc := fun i r (hi : i < n) (hr : r < 4) => h.cells (g := sG v) rfl (i * 4 + r) (fld (k i) r) (knotsL_get hi hr)
  refine ⟨sG v, 0, h3, lt_of (show w.cell? ⟨sG v, 0 + (0 * 4 + 0), none⟩ = some (fld (k 0) 0) from (by have := hc 0 0 h0 (by decide); rwa [addr_add] at this)), fun i hi => ⟨?_, ?_, ?_, ?_⟩⟩
  · have := hc i 0 hi (by decide); rw [addr_add] at this; exact this
  · have := hc i 1 hi (by decide); rw [addr_add] at this; rw [show 0 + i * 4 + 1 = 0 + (i * 4 + 1) by omega]; exact this
  · have := hc i 2 hi (by decide); rw [addr_add] at this; rw [show 0 + i * 4 + 2 = 0 + (i * 4 + 2) by omega]; exact this
  · have := hc i 3 hi (by decide); rw [addr_add] at this; rw [show 0 + i * 4 + 3 = 0 + (i * 4 + 3) by omega]; exact this
theorem fld_one (q : Knot) (r : Nat) : (fld q r).oneCell' = true := by
  unfold fld
  split
  · rfl
  · split
    · rfl
    · split <;> rfl
theorem lcf0 (a : Addr) (acc : Array Value) (w : World) : (loadCellsFrom a 0 0 acc).run Try.prog w = .ok acc w := rfl
theorem scl0 (a : Addr) (w : World) : (storeCells a []).run Try.prog w = .ok () w := rfl
attribute [local go_sem] lcf0 scl0
set_option maxRecDepth 100000 in
set_option maxHeartbeats 800000 in
theorem copyT_0 (A : Option Addr) (c : Nat) (d : Int) (w : World) (h0 : A = none → c = 0) :
    Calls Try.prog 14 #[.agg #[.slice A 0 c, .int .i64 d]] w fun e w' => ∃ A' c', e = .returned (.agg #[.slice A' 0 c', .int .i64 d]) ∧ Below w.heap.size w w' := by
  cases A with
  | none =>
    obtain rfl := h0 rfl
    go_enter Try.func14, Try.ntmps14
    go_wp2_with fail
    go_region_held3 (fun w' => w'.cell? ⟨w.heap.size, 0, none⟩ = some (.slice none 0 0) ∧ w'.cell? ⟨w.heap.size, 1, none⟩ = some (.int .i64 d)) (simp [go_sem, *]) (first | fail)
    all_goals
      go_wp2_with fail
      refine bodyPost_ret (v := .agg #[.slice (some ⟨w.heap.size + 1 + 1, 0, none⟩) 0 0, .int .i64 d]) (by simp [results, Try.results14, go_sem]) rfl ⟨_, _, rfl, by (repeat (first | with_reducible exact Below.refl _ _ | with_reducible assumption | with_reducible refine Below.alloc ?_ (by first | (simp; done) | (simp; omega) | omega) _ | with_reducible refine Below.setCell ?_ (by first | (simp; done) | (simp; omega) | omega) _ | with_reducible refine Below.drew ?_ | with_reducible refine below_drewN ?_ _))⟩
  | some a =>
    go_enter Try.func14, Try.ntmps14
    go_wp2_with fail
    go_region_held3 (fun w' => w'.cell? ⟨w.heap.size, 0, none⟩ = some (.slice (some a) 0 c) ∧ w'.cell? ⟨w.heap.size, 1, none⟩ = some (.int .i64 d)) (simp [go_sem, *]) (first | fail)
    all_goals
      go_wp2_with fail
      refine bodyPost_ret (v := .agg #[.slice (some ⟨w.heap.size + 1 + 1, 0, none⟩) 0 0, .int .i64 d]) (by simp [results, Try.results14, go_sem]) rfl ⟨_, _, rfl, by (repeat (first | with_reducible exact Below.refl _ _ | with_reducible assumption | with_reducible refine Below.alloc ?_ (by first | (simp; done) | (simp; omega) | omega) _ | with_reducible refine Below.setCell ?_ (by first | (simp; done) | (simp; omega) | omega) _ | with_reducible refine Below.drew ?_ | with_reducible refine below_drewN ?_ _))⟩
theorem own_new {e : TypeId} {sz : Nat} (W : World) (B : Nat) (h : W.heap.size = B) : ((W.alloc (.cells #[] e)).drew).ownsRow B e sz (.slice (some ⟨B, 0, none⟩) 0 0) 0 [] := by
  subst h
  exact World.ownsRow.drew (World.ownsRow_made W #[] 0 (Nat.le_refl _) (by unfold maxLen; omega) (by simp))
theorem knots_one (n : Nat) (k : Nat → Knot) : ∀ u ∈ knotsL n k, u.oneCell' = true := by
  intro u hu
  obtain ⟨j, _, rfl⟩ := List.mem_map.1 hu
  exact fld_one _ _
theorem own_knots2 {w : World} {base e n g cap : Nat} {k : Nat → Knot} (h : w.ownsRow base e 4 (.slice (some ⟨g, 0, none⟩) n cap) n (knotsL n k)) (h0 : 0 < n) : KAt w g 0 n k := by
  obtain ⟨_, h2⟩ := own_knots h
  obtain ⟨b, off, e1, e2⟩ := h2 h0
  have e3 : sA (.slice (some ⟨g, 0, none⟩) n cap) = some ⟨g, 0, none⟩ := rfl
  rw [e3] at e1
  cases e1
  exact e2
theorem g_ge {w : World} {base e sz m n g cap : Nat} {xs : List Value} (h : w.ownsRow base e sz (.slice (some ⟨g, 0, none⟩) m cap) n xs) : base ≤ g := (h.lt g rfl).1
theorem kat_set {w : World} {b off n : Nat} {k : Nat → Knot} {a : Addr} {v : Value} (h : KAt w b off n k) (ha : a.block ≠ b) : KAt (w.setCell a v) b off n k := by
  have hn : ∀ o, a ≠ ⟨b, o, none⟩ := fun o e => ha (by rw [e])
  refine ⟨by simpa [World.setCell] using h.1, fun i hi => ?_⟩
  obtain ⟨c1, c2, c3, c4⟩ := h.2 i hi
  exact ⟨(World.cell?_setCell_other w a _ v (hn _)).trans c1, (World.cell?_setCell_other w a _ v (hn _)).trans c2, (World.cell?_setCell_other w a _ v (hn _)).trans c3, (World.cell?_setCell_other w a _ v (hn _)).trans c4⟩
set_option maxRecDepth 100000 in
set_option maxHeartbeats 800000 in
theorem copyT_some (b off n c : Nat) (d : Int) (k : Nat → Knot) (w : World) (h0 : 0 < n) (hn : n ≤ 1000000) (hk : KAt w b off n k) :
    Calls Try.prog 14 #[.agg #[.slice (some ⟨b, off, none⟩) n c, .int .i64 d]] w fun e w' => ∃ A' c', e = .returned (.agg #[.slice A' n c', .int .i64 d]) ∧ KA w' A' n k ∧ Below w.heap.size w w' := by
  obtain ⟨i0, hi0, hzz⟩ := Option.map_eq_some_iff.1 infoKnot
  simp only [Prod.mk.injEq] at hzz
  obtain ⟨hz0, hz1, hz2⟩ := hzz
  have HN := Lib.hid hk
  clear hk
  go_enter Try.func14, Try.ntmps14
  go_wp2_with fail
  have hb := HN.out.1
  go_region_held3 (fun w' => w'.cell? ⟨w.heap.size, 0, none⟩ = some (.slice (some ⟨b, off, none⟩) n c) ∧ w'.cell? ⟨w.heap.size, 1, none⟩ = some (.int .i64 d)) (simp [go_sem, *])
    (first
      | (go_loud (
          refine step_append_lies (P := Try.prog) _ ?_ (.tmp 3) (.tmp 5) 22 ?_ (w.heap.size + 1 + 1) 107 i0 (.agg #[.int .i64 0, .int .i64 0, .int .i64 0, .int .i64 0]) 4 32 undKnots hi0 hz0 hz1 hz2 ?_ ?_ (.slice (some ⟨w.heap.size + 1 + 1, 0, none⟩) 0 0) 0 [] ?_ ?_ ⟨b, off, none⟩ n c (knotsL n k) ?_ ?_ ?_ ?_ h0 ?_ ?_ ?_ (w.heap.size + 1 + 1 + 1) ?_ ?_;
          (focus rfl);
          (focus rfl);
          (focus rfl);
          (focus decide);
          (focus (simp [Act.eval]));
          (focus (exact own_new _ _ (by simp)));
          (focus (simp [Act.eval]));
          (focus (simp [knotsL]));
          (focus (exact knots_news (HN.out.below (B := w.heap.size) (by (repeat (first | with_reducible exact Below.refl _ _ | with_reducible assumption | with_reducible refine Below.alloc ?_ (by first | (simp; done) | (simp; omega) | omega) _ | with_reducible refine Below.setCell ?_ (by first | (simp; done) | (simp; omega) | omega) _ | with_reducible refine Below.drew ?_ | with_reducible refine below_drewN ?_ _))) hb)));
          (focus (exact knots_one n k));
          (focus (unfold maxLen; omega));
          (focus omega);
          (focus (simp));
          (focus (simp));
          intro g cap w1 hown hgrow hat hlt;
          have hB : Hid (Below w.heap.size w w1) := (by (repeat (first | with_reducible exact Below.refl _ _ | with_reducible assumption | with_reducible refine Below.alloc ?_ (by first | (simp; done) | (simp; omega) | omega) _ | with_reducible refine Below.setCell ?_ (by first | (simp; done) | (simp; omega) | omega) _ | with_reducible refine Below.drew ?_ | with_reducible refine below_drewN ?_ _)) : Below w.heap.size w _).grown hgrow (by first | (simp; done) | (simp; omega) | omega) (fun q hq => by cases hq; show w.heap.size ≤ w.heap.size + 1 + 1; omega);
          have hKA := Lib.hid (own_knots2 (by simpa using hown) h0);
          have e0 := hgrow.cell (a := ⟨w.heap.size, 0, none⟩) (show _ = some (.slice (some ⟨b, off, none⟩) n c) by simp [go_sem]) (by simp [Value.ownBlock]; omega);
          have e1 := hgrow.cell (a := ⟨w.heap.size, 1, none⟩) (show _ = some (.int .i64 d) by simp [go_sem]) (by simp [Value.ownBlock]; omega);
          have r0 := hgrow.cell (a := ⟨w.heap.size + 1, 0, none⟩) (show _ = some (.slice none 0 0) by simp [go_sem]) (by simp [Value.ownBlock]);
          have r1 := hgrow.cell (a := ⟨w.heap.size + 1, 1, none⟩) (show _ = some (.int .i64 0) by simp [go_sem]) (by simp [Value.ownBlock]);
          have f0 := (World.frozen?_of_block (a := ⟨w.heap.size + 1, 0, none⟩) (hgrow.block (w.heap.size + 1) (by first | (simp; done) | (simp; omega) | omega) (by simp [Value.ownBlock]))).trans (show _ = false by simp [go_sem]);
          have f1 := (World.frozen?_of_block (a := ⟨w.heap.size + 1, 1, none⟩) (hgrow.block (w.heap.size + 1) (by first | (simp; done) | (simp; omega) | omega) (by simp [Value.ownBlock]))).trans (show _ = false by simp [go_sem]);
          rw [Nat.zero_add];
          have hG := Lib.hid (g_ge hown);
          clear hown hgrow hat hlt)))
  all_goals
    go_wp2_with fail
    have hg2 := hG.out
    have hw1 : w.heap.size ≤ w.heap.size + 1 := by omega
    have hw2 := hB.out
    refine bodyPost_ret (v := .agg #[.slice (some ⟨g, 0, none⟩) n cap, .int .i64 d]) (by simp [results, Try.results14, go_sem, r0, r1]) rfl ⟨_, _, rfl, fun _ => ⟨g, 0, rfl, kat_set (kat_set hKA.out (by show w.heap.size + 1 ≠ g; omega)) (by show w.heap.size + 1 ≠ g; omega)⟩, by (repeat (first | with_reducible exact Below.refl _ _ | with_reducible assumption | with_reducible refine Below.alloc ?_ (by first | (simp; done) | (simp; omega) | omega) _ | with_reducible refine Below.setCell ?_ (by first | (simp; done) | (simp; omega) | omega) _ | with_reducible refine Below.drew ?_ | with_reducible refine below_drewN ?_ _))⟩
theorem copyT_any (A : Option Addr) (n c : Nat) (d : Int) (k : Nat → Knot) (w : World) (hn : n ≤ 1000000) (h0 : A = none → n = 0 ∧ c = 0) (hk : KA w A n k) :
    Calls Try.prog 14 #[.agg #[.slice A n c, .int .i64 d]] w fun e w' => ∃ A' c', e = .returned (.agg #[.slice A' n c', .int .i64 d]) ∧ KA w' A' n k ∧ Below w.heap.size w w' := by
  rcases Nat.eq_zero_or_pos n with e | e
  · subst e
    exact (copyT_0 A c d w (fun q => (h0 q).2)).mono fun e w' ⟨A', c', he, hb⟩ => ⟨A', c', he, fun h => absurd h (Nat.lt_irrefl 0), hb⟩
  · obtain ⟨b, off, rfl, hk2⟩ := hk e
    exact copyT_some b off n c d k w e hn hk2
end Go.Proofs.Ytmhcmiajikffpaa
namespace Go.Proofs.Ytmhcmiajikffpaa
open Go.RowKit Go.Shelf Go.Sort
attribute [local go_sem] idx3_0 idx3_1 idx3_2 old1 fro1 old2 fro2 old3 fro3 old4 fro4 old5 fro5 old6 fro6 old7 fro7 old8 fro8 old9 fro9 old10 fro10 old11 fro11 old12 fro12
set_option maxRecDepth 100000 in
set_option maxHeartbeats 800000 in
theorem few_any (A : Option Addr) (n c : Nat) (d : Int) (w : World) (_ : n ≤ 9223372036854775807) :
    Calls Try.prog 8 #[.agg #[.slice A n c, .int .i64 d]] w fun e w' => e = .returned (.bool (decide ((n : Int) ≤ 14))) ∧ Below w.heap.size w w' := by
  go_enter Try.func8, Try.ntmps8
  go_wp2_with fail
  go_ret
  exact ⟨rfl, by (repeat (first | with_reducible exact Below.refl _ _ | with_reducible assumption | with_reducible refine Below.alloc ?_ (by first | (simp; done) | (simp; omega) | omega) _ | with_reducible refine Below.setCell ?_ (by first | (simp; done) | (simp; omega) | omega) _ | with_reducible refine Below.drew ?_ | with_reducible refine below_drewN ?_ _))⟩
theorem KA.bel {w W : World} {A : Option Addr} {n : Nat} {k : Nat → Knot} (h : KA w A n k) (hb : Below w.heap.size w W) : KA W A n k := fun h0 => by
  obtain ⟨b, off, e, hk⟩ := h h0
  exact ⟨b, off, e, hk.below hb hk.1⟩
end Go.Proofs.Ytmhcmiajikffpaa
namespace Go.Proofs.Ytmhcmiajikffpaa
open Go.RowKit Go.Shelf Go.Sort
attribute [local go_sem] idx3_0 idx3_1 idx3_2 old1 fro1 old2 fro2 old3 fro3 old4 fro4 old5 fro5 old6 fro6 old7 fro7 old8 fro8 old9 fro9 old10 fro10 old11 fro11 old12 fro12
def mpCp (n : Nat) (d : Int) (k : Nat → Knot) : MP := ⟨fun v w => ∃ X c, v = .agg #[.slice X n c, .int .i64 d] ∧ KA w X n k, fun _ _ _ ⟨X, c, hv, hk⟩ hb => ⟨X, c, hv, hk.bel hb⟩⟩
/-- a new variable of two numbers, in a block from B on -/
def mpNew (B : Nat) : MP := ⟨fun v w => ∃ q, v = .pointer (some ⟨q, 0, none⟩) ∧ B ≤ q ∧ w.cell? ⟨q, 0, none⟩ = some (.int .i64 0) ∧ w.cell? ⟨q, 1, none⟩ = some (.int .i64 0) ∧ w.frozen? ⟨q, 0, none⟩ = false ∧ w.frozen? ⟨q, 1, none⟩ = false,
  fun _ _ _ ⟨q, hv, hB, h0, h1, f0, f1⟩ hb => ⟨q, hv, hB, keep hb h0, keep hb h1, (hb.frozen (p := ⟨q, 0, none⟩) (lt_of h0)).trans f0, (hb.frozen (p := ⟨q, 1, none⟩) (lt_of h1)).trans f1⟩⟩
def mpVar (B : Nat) (x y : Int) : MP := ⟨fun v w => ∃ q, v = .pointer (some ⟨q, 0, none⟩) ∧ B ≤ q ∧ w.cell? ⟨q, 0, none⟩ = some (.int .i64 x) ∧ w.cell? ⟨q, 1, none⟩ = some (.int .i64 y) ∧ w.frozen? ⟨q, 0, none⟩ = false ∧ w.frozen? ⟨q, 1, none⟩ = false,
  fun _ _ _ ⟨q, hv, hB, h0, h1, f0, f1⟩ hb => ⟨q, hv, hB, keep hb h0, keep hb h1, (hb.frozen (p := ⟨q, 0, none⟩) (lt_of h0)).trans f0, (hb.frozen (p := ⟨q, 1, none⟩) (lt_of h1)).trans f1⟩⟩
end Go.Proofs.Ytmhcmiajikffpaa
namespace Go.Proofs.Ytmhcmiajikffpaa
open Go.RowKit
/-- the slots' values behind an operation -/
def slUpd (V : Nat → Value) (d : Option Nat) (v : Value) : Nat → Value := fun t => match d with | none => V t | some k => bif Nat.beq t k then v else V t
theorem slUpd_put {a : Act} {d : Option Nat} {v : Value} (h : ∀ k, d = some k → k < a.tmps.size) : (fun t => (a.put d v).tmps.getD t undef) = slUpd (fun t => a.tmps.getD t undef) d v := by
  funext t
  cases d with
  | none => rfl
  | some k =>
    show _ = bif Nat.beq t k then v else a.tmps.getD t undef
    cases hb : Nat.beq t k with
    | true =>
      have e := Nat.eq_of_beq_eq_true hb
      subst e
      exact rg_put_own (h t rfl)
    | false => exact rg_put_getD (fun q => by rw [← q, Nat.beq_refl] at hb; cases hb)
def riLow (ops : Array Oper) (n : Nat) : Prop := ∀ (i : Nat) (o : Oper), ops[i]? = some o → o.guard = none ∧ (∀ e ∈ o.after, Region.binds .any e = true → e.on < i) ∧ ∀ d, o.dst = some d → d < n
structure JInv (ops : Array Oper) (J : (Nat → Bool) → (Nat → Value) → World → Prop) (a : Act) (listed : Array Bool) (a' : Act) (w' : World) : Prop where
  sz : listed.size = ops.size
  same : RSame ops a a'
  inv : J (fun i => listed.getD i false) (fun t => a'.tmps.getD t undef) w'
theorem listed_set {listed : Array Bool} {i : Nat} (h : i < listed.size) : (fun j => (listed.setIfInBounds i true).getD j false) = fun j => Nat.beq j i || listed.getD j false := by
  funext j
  by_cases e : j = i
  · subst e
    simp [Array.getD_eq_getD_getElem?, h, Nat.beq_refl]
  · rw [getD_set_ne e]
    have : Nat.beq j i = false := by
      cases hb : Nat.beq j i with
      | false => rfl
      | true => exact absurd (Nat.eq_of_beq_eq_true hb) e
    rw [this, Bool.false_or]
theorem wpAny_inv {P : Program} {ops : Array Oper} {Q : Exit → Act → World → Prop} (J : (Nat → Bool) → (Nat → Value) → World → Prop) (a : Act) (hl : riLow ops a.tmps.size)
    (hstep : ∀ (i : Nat) (o : Oper), ops[i]? = some o → ∀ L a' w', L i = false → (∀ e ∈ o.after, Region.binds .any e = true → L e.on = true) → RSame ops a a' → J L (fun t => a'.tmps.getD t undef) w' → o.wp P a' w' (fun a'' w'' => ∃ v, a'' = a'.put o.dst v ∧ J (fun j => Nat.beq j i || L j) (slUpd (fun t => a'.tmps.getD t undef) o.dst v) w'') Q)
    (hend : ∀ L a' w', (∀ i, i < ops.size → L i = true) → RSame ops a a' → J L (fun t => a'.tmps.getD t undef) w' → Q .normal a' w') :
    ∀ (fuel : Nat) (listed : Array Bool) (a' : Act) (w' : World), JInv ops J a listed a' w' → rgMissing listed ops.size ≤ fuel → wpAny P .any ops Q fuel listed a' w' := by
  have full : ∀ (listed : Array Bool) (a' : Act) (w' : World), JInv ops J a listed a' w' → Region.ready .any ops listed = [] → Q .normal a' w' := by
    intro listed a' w' h hr
    have all : ∀ n i, i < n → i < ops.size → listed.getD i false = true := by
      intro n
      induction n with
      | zero => intro i hi; omega
      | succ n ih =>
        intro i hi hs
        rcases Nat.lt_or_eq_of_le (Nat.le_of_lt_succ hi) with h1 | rfl
        · exact ih i h1 hs
        · have ho : ops[i]? = some ops[i] := Array.getElem?_eq_getElem hs
          cases hc : listed.getD i false with
          | true => rfl
          | false =>
            exfalso
            have hm : i ∈ Region.ready .any ops listed := by
              unfold Region.ready
              refine List.mem_filter.2 ⟨List.mem_range.2 hs, ?_⟩
              have h2 : listed.getD i true = false := by
                have hsz : i < listed.size := by rw [h.sz]; exact hs
                simp [Array.getD, hsz] at hc ⊢
                exact hc
              rw [h2, ho]
              simp only [Bool.not_false, Bool.true_and, Option.map_some, Option.getD_some]
              rw [Array.all_eq_true_iff_forall_mem]
              intro e he
              cases hbd : Region.binds .any e with
              | false => simp
              | true =>
                have := ih e.on ((hl i _ ho).2.1 e he hbd) (by have := (hl i _ ho).2.1 e he hbd; omega)
                simp [this]
            rw [hr] at hm
            cases hm
    exact hend _ a' w' (fun i hi => all (i + 1) i (by omega) hi) h.same h.inv
  intro fuel
  induction fuel with
  | zero =>
    intro listed a' w' h hm
    have hr : Region.ready .any ops listed = [] := by
      rcases hq : Region.ready .any ops listed with _ | ⟨i, l⟩
      · rfl
      · exfalso
        have hi : i ∈ Region.ready .any ops listed := by rw [hq]; simp
        unfold Region.ready at hi
        obtain ⟨h1, h2⟩ := List.mem_filter.1 hi
        have h3 : (!listed.getD i true) = true := by
          simp only [Bool.and_eq_true] at h2
          exact h2.1
        have : i ∈ (List.range ops.size).filter fun i => !listed.getD i true := List.mem_filter.2 ⟨h1, h3⟩
        have := List.length_pos_of_mem this
        unfold rgMissing at hm
        omega
    exact ⟨hr, full _ _ _ h hr⟩
  | succ fuel ih =>
    intro listed a' w' h hm
    refine ⟨fun hr => full _ _ _ h hr, fun i hi => ?_⟩
    unfold Region.ready at hi
    obtain ⟨h1, h2⟩ := List.mem_filter.1 hi
    simp only [Bool.and_eq_true] at h2
    obtain ⟨h3, h4⟩ := h2
    have hsi : i < ops.size := List.mem_range.1 h1
    have ho : ops[i]? = some ops[i] := Array.getElem?_eq_getElem hsi
    have hun := getD_of_ready hsi h.sz h3
    obtain ⟨hg, hlow, hdl⟩ := hl i _ ho
    rw [ho] at h4
    simp only [Option.map_some, Option.getD_some] at h4
    rw [Array.all_eq_true_iff_forall_mem] at h4
    have hsz : i < listed.size := by rw [h.sz]; exact hsi
    have hmiss : rgMissing (listed.setIfInBounds i true) ops.size ≤ fuel := by
      have : rgMissing (listed.setIfInBounds i true) ops.size < rgMissing listed ops.size := by
        refine filter_len_lt (i := i) ?_ h3 ?_ h1
        · intro x hx
          simp only [Array.getD_eq_getD_getElem?, Array.getElem?_setIfInBounds] at hx ⊢
          by_cases hxi : i = x
          · subst hxi
            simp [hsz] at hx
          · rw [if_neg hxi] at hx
            exact hx
        · simp [Array.getD_eq_getD_getElem?, hsz]
      omega
    have hdeps : ∀ e ∈ (ops[i]).after, Region.binds .any e = true → listed.getD e.on false = true := by
      intro e he hb
      have := h4 e he
      rw [hb] at this
      simpa using this
    have hwant : Region.wanted ops[i] (yielded ops a'.tmps) = true := by simp [Region.wanted, hg]
    unfold wpOp
    rw [ho]
    simp only [hwant, if_true]
    refine .inl (Oper.wp_mono ?_ (hstep i _ ho (fun j => listed.getD j false) a' w' hun hdeps h.same h.inv))
    rintro a'' w'' ⟨v, rfl, hv⟩
    refine ih _ _ _ ⟨by simp [h.sz], ⟨?_, ?_, ?_⟩, ?_⟩ hmiss
    · rw [← h.same.1]
      cases (ops[i]).dst <;> simp [Act.put]
    · rw [← h.same.2.1]
      cases (ops[i]).dst <;> rfl
    · intro t ht
      rw [← h.same.2.2 t ht]
      cases hd : (ops[i]).dst with
      | none => rfl
      | some d => exact rg_put_get (by intro e; exact ht i _ ho (by rw [hd, e]))
    · rw [listed_set hsz, slUpd_put (fun k hk => by rw [h.same.1]; exact hdl k hk)]
      exact hv
def riCheck (n : Nat) : Nat → List Oper → Bool
  | _, [] => true
  | i, o :: l => (o.guard.isNone && o.after.toList.all (fun e => !Region.binds .any e || Nat.blt e.on i) && (match o.dst with | some d => Nat.blt d n | none => true)) && riCheck n (i + 1) l
theorem riCheck_of : ∀ (n k : Nat) (l : List Oper), riCheck n k l = true → ∀ (i : Nat) (o : Oper), l[i]? = some o → o.guard = none ∧ (∀ e ∈ o.after, Region.binds .any e = true → e.on < k + i) ∧ ∀ d, o.dst = some d → d < n
  | n, k, [], _, i, o, h => by simp at h
  | n, k, x :: l, hc, 0, o, h => by
    simp at h
    subst h
    simp only [riCheck, Bool.and_eq_true] at hc
    obtain ⟨⟨⟨h1, h2⟩, h3⟩, _⟩ := hc
    refine ⟨by simpa using h1, fun e he hb => ?_, fun d hd => ?_⟩
    · have := List.all_eq_true.1 h2 e (by simpa using he)
      rw [hb] at this
      simpa [Nat.blt_eq] using this
    · rw [hd] at h3
      simpa [Nat.blt_eq] using h3
  | n, k, x :: l, hc, i + 1, o, h => by
    simp only [riCheck, Bool.and_eq_true] at hc
    have := riCheck_of n (k + 1) l hc.2 i o (by simpa using h)
    rwa [show k + 1 + i = k + (i + 1) from by omega] at this
/-- the law: J holds ahead, each operation keeps it, J of all operations suffices behind -/
theorem wp_region_inv {P : Program} {id : Nat} {ops : Array Oper} {Q : Exit → Act → World → Prop} {a : Act} {w : World} (m : List Bool) (hmask : maskOf (rsDsts ops.toList) a.tmps.size = m) (J : (Nat → Bool) → (Nat → Value) → World → Prop) (hm : P.follows .mixedOrders = true) (hl : riCheck a.tmps.size 0 ops.toList = true)
    (h0 : J (fun _ => false) (fun t => a.tmps.getD t undef) w.drew)
    (hstep : AllOps (fun i o => ∀ L a' w', L i = false → (∀ e ∈ o.after, Region.binds .any e = true → L e.on = true) → RSame ops a a' → J L (fun t => a'.tmps.getD t undef) w' → ∀ K : Act → World → Prop, (∀ v w'', J (fun j => Nat.beq j i || L j) (slUpd (fun t => a'.tmps.getD t undef) o.dst v) w'' → K (a'.put o.dst v) w'') → o.wp P a' w' K Q) 0 ops.toList)
    (hend : ∀ (L : Nat → Bool) (V : Nat → Value) (w' : World), (∀ i, Nat.blt i ops.size = true → L i = true) → J L V w' → Q .normal ⟨(maskPut V 0 m a.tmps.toList).toArray, a.defers⟩ w') :
    (Code.region id ops true).wp P Q a w := by
  refine wp_region_any hm ?_
  have low : riLow ops a.tmps.size := fun i o ho => by
    have := riCheck_of _ 0 ops.toList hl i o (by rw [Array.getElem?_toList]; exact ho)
    rwa [Nat.zero_add] at this
  refine wpAny_inv J a low ?_ ?_ ops.size (Array.replicate ops.size false) a _ ⟨by simp, ⟨rfl, rfl, fun _ _ => rfl⟩, ?_⟩ ?_
  · intro i o ho L a' w' h1 h2 h3 h4
    exact allOps_of hstep i o ho L a' w' h1 h2 h3 h4 _ fun v w'' hj => ⟨v, rfl, hj⟩
  · intro L a' w' hall hsm hj
    have := hend L (fun t => a'.tmps.getD t undef) w' (fun i hi => hall i (by simpa [Nat.blt_eq] using hi)) hj
    rw [act_of_st hsm, act_mask _ _ a m hmask]
    exact this
  · have e : (fun i => (Array.replicate ops.size false).getD i false) = fun _ => false := by
      funext i
      simp only [Array.getD_eq_getD_getElem?, Array.getElem?_replicate]
      split <;> rfl
    rw [e]
    exact h0
  · unfold rgMissing
    refine Nat.le_trans (List.length_filter_le _ _) ?_
    simp
end Go.Proofs.Ytmhcmiajikffpaa
namespace Go.Proofs.Ytmhcmiajikffpaa
open Go.RowKit Go.Shelf Go.Sort
attribute [local go_sem] idx3_0 idx3_1 idx3_2 old1 fro1 old2 fro2 old3 fro3 old4 fro4 old5 fro5 old6 fro6 old7 fro7 old8 fro8 old9 fro9 old10 fro10 old11 fro11 old12 fro12
def mk0 : List Bool := [false, false, false, false, false, false, false, false, false, true, false, false, false, false, false, false, false, false, false, false, false, false, false, false, false, false, false, false, false, true, true, true, true, true, true, false, false, false, false, false, false, false, false, false, false, false, false, false, false, false, false, false, false, false, false, false, false, false, false, false, false, false, false, false, false, false, false, false, false, false, false, false, false, false, false, false, false, false, false, false, false, false, false, false, false, false, false, false, false, false, false, false, false, false, false, false, false, false, false, false, false, false, false, false, false, false, false, false, false, false, false, false, false, false, false, false]
def mk1 : List Bool := [false, false, false, false, false, false, false, false, false, false, false, true, true, false, false, false, false, false, false, false, false, false, false, false, false, false, false, false, false, false, false, false, false, false, false, false, false, false, false, false, false, true, true, true, true, true, true, true, true, true, true, true, true, true, true, true, true, true, true, true, false, false, false, false, false, false, false, false, false, false, false, false, false, false, false, false, false, false, false, false, false, false, false, false, false, false, false, false, false, false, false, false, false, false, false, false, false, false, false, false, false, false, false, false, false, false, false, false, false, false, false, false, false, false, false, false]
def mk2 : List Bool := [false, false, false, false, false, false, false, false, false, false, false, false, false, true, true, false, false, false, false, false, false, false, false, false, false, false, false, false, false, false, false, false, false, false, false, false, false, false, false, false, false, false, false, false, false, false, false, false, false, false, false, false, false, false, false, false, false, false, false, false, false, false, false, false, false, false, false, false, false, false, false, true, true, true, true, true, true, true, true, true, true, true, true, true, false, false, false, false, false, false, false, false, false, false, false, false, false, false, false, false, false, false, false, false, false, false, false, false, false, false, false, false, false, false, false, false]
def mk11 : List Bool := [false, false, false, false, false, false, false, false, false, false, false, false, false, false, false, false, false, false, false, false, false, false, false, false, false, false, false, false, false, false, false, false, false, false, false, false, false, false, false, false, false, false, false, false, false, false, false, false, false, false, false, false, false, false, false, false, false, false, false, false, false, true, true, true, true, true, true, true, true, true, true, false, false, false, false, false, false, false, false, false, false, false, false, false, false, false, false, false, false, false, false, false, false, false, false, false, false, false, false, false, false, false, false, false, false, false, false, false, false, false, false, false, false, false, false, false]
theorem infoStep : (Try.prog.info? 101).map (fun i => (i.zero, i.size, i.bytes)) = some (some (.agg #[.int .i64 0, .int .i64 0, .int .i64 0]), 3, 24) := by kernel_rfl
theorem undSteps : Try.prog.underlying 104 = some (.slice 101) := by kernel_rfl
theorem dep_of2 {o : Oper} {L : Nat → Bool} (h : ∀ e ∈ o.after, Region.binds .any e = true → L e.on = true) (j : Nat) (hj : (o.after.toList.any fun e => Nat.beq e.on j && Region.binds .any e) = true) : L j = true := by
  obtain ⟨e, he, h2⟩ := List.any_eq_true.1 hj
  obtain ⟨h3, h4⟩ := (Bool.and_eq_true _ _).mp h2
  replace h3 := Nat.eq_of_beq_eq_true h3
  subst h3
  exact h e (by simpa using he) h4
/-- a new step, in a block from B on -/
def mpNew3 (B : Nat) : MP := ⟨fun v w => ∃ q, v = .pointer (some ⟨q, 0, none⟩) ∧ B ≤ q ∧ w.cell? ⟨q, 0, none⟩ = some (.int .i64 0) ∧ w.cell? ⟨q, 1, none⟩ = some (.int .i64 0) ∧ w.cell? ⟨q, 2, none⟩ = some (.int .i64 0) ∧ w.frozen? ⟨q, 0, none⟩ = false ∧ w.frozen? ⟨q, 1, none⟩ = false ∧ w.frozen? ⟨q, 2, none⟩ = false,
  fun _ _ _ ⟨q, hv, hB, h0, h1, h2, f0, f1, f2⟩ hb => ⟨q, hv, hB, keep hb h0, keep hb h1, keep hb h2, (hb.frozen (p := ⟨q, 0, none⟩) (lt_of h0)).trans f0, (hb.frozen (p := ⟨q, 1, none⟩) (lt_of h1)).trans f1, (hb.frozen (p := ⟨q, 2, none⟩) (lt_of h2)).trans f2⟩⟩
def mpVar3 (B : Nat) (x y z : Int) : MP := ⟨fun v w => ∃ q, v = .pointer (some ⟨q, 0, none⟩) ∧ B ≤ q ∧ w.cell? ⟨q, 0, none⟩ = some (.int .i64 x) ∧ w.cell? ⟨q, 1, none⟩ = some (.int .i64 y) ∧ w.cell? ⟨q, 2, none⟩ = some (.int .i64 z) ∧ w.frozen? ⟨q, 0, none⟩ = false ∧ w.frozen? ⟨q, 1, none⟩ = false ∧ w.frozen? ⟨q, 2, none⟩ = false,
  fun _ _ _ ⟨q, hv, hB, h0, h1, h2, f0, f1, f2⟩ hb => ⟨q, hv, hB, keep hb h0, keep hb h1, keep hb h2, (hb.frozen (p := ⟨q, 0, none⟩) (lt_of h0)).trans f0, (hb.frozen (p := ⟨q, 1, none⟩) (lt_of h1)).trans f1, (hb.frozen (p := ⟨q, 2, none⟩) (lt_of h2)).trans f2⟩⟩
/-- positions in a block behind B -/
def mpPos (B m : Nat) (pf : Nat → Int) : MP := ⟨fun v w => ∃ A c, v = .slice A m c ∧ IA w A m pf ∧ ∀ a, A = some a → B < a.block, fun _ _ _ ⟨A, c, hv, h, hB⟩ hb => ⟨A, c, hv, h.below hb, hB⟩⟩
theorem pos_word {W w1 : World} {B m : Nat} {pf : Nat → Int} {v : Value} (hB : B < W.heap.size) (h : w1.ownsRow (W.heap.size + 1) 3 1 v m (intsV m pf)) : (mpPos B m pf).p v w1 := by
  obtain ⟨h1, h2⟩ := own_intsV h
  refine ⟨sA v, sC v, h1, h2, fun a ha => ?_⟩
  rcases h.2 with ⟨rfl, _⟩ | ⟨g, cap, cur, rfl, hbb, _⟩
  · cases ha
  · cases ha
    show B < g
    omega
theorem news_at {w : World} {hn : Nat} {x y z : Int} (y0 : w.cell? ⟨hn, 0, none⟩ = some (.int .i64 x)) (y1 : w.cell? ⟨hn, 1, none⟩ = some (.int .i64 y)) (y2 : w.cell? ⟨hn, 2, none⟩ = some (.int .i64 z)) : ∀ j u, [Value.int .i64 x, .int .i64 y, .int .i64 z][j]? = some u → w.cell? ((⟨hn, 0, none⟩ : Addr).add j) = some u := by
  intro j u hj
  rw [addr_add, Nat.zero_add]
  match j, hj with
  | 0, hj => simp at hj; subst hj; exact y0
  | 1, hj => simp at hj; subst hj; exact y1
  | 2, hj => simp at hj; subst hj; exact y2
  | j + 3, hj => simp at hj
/-- what holds of a step that is appended to a row, whatever was done of it -/
def AJ (w wx : World) (NN i B0 e : Nat) (sa str snx : Int) (Av : Option Addr) (cv : Nat) (l : List St) (L : Nat → Bool) (V : Nat → Value) (W : World) : Prop :=
  (L 0 = true → V 61 = .slice (some ⟨w.heap.size + 1, 0, none⟩) NN NN) ∧ (L 1 = true → V 62 = .int .i64 i) ∧ (L 2 = true → V 63 = .slice (some ⟨w.heap.size + 1, 0, none⟩) NN NN) ∧ (L 3 = true → V 64 = .int .i64 i) ∧ (L 4 = true → V 65 = .pointer (some ⟨w.heap.size + 1, i, none⟩)) ∧
  (L 5 = true → V 66 = .slice Av l.length cv) ∧ (L 6 = true → V 67 = .agg #[.int .i64 sa, .int .i64 str, .int .i64 snx]) ∧ (L 9 = true → V 70 = .pointer (some ⟨w.heap.size + 1, i, none⟩)) ∧
  (∀ b o u, b < B0 → ¬ (b = w.heap.size + 1 ∧ o = i) → wx.cell? ⟨b, o, none⟩ = some u → W.cell? ⟨b, o, none⟩ = some u) ∧ (∀ j, W.frozen? ⟨w.heap.size + 1, j, none⟩ = false) ∧ Below w.heap.size w W ∧ B0 ≤ W.heap.size ∧
  (L 8 = false → Below wx.heap.size wx W) ∧
  (L 7 = true → L 8 = false → ∃ hn, V 68 = .slice (some ⟨hn, 0, none⟩) 1 1 ∧ W.cell? ⟨hn, 0, none⟩ = some (.int .i64 sa) ∧ W.cell? ⟨hn, 1, none⟩ = some (.int .i64 str) ∧ W.cell? ⟨hn, 2, none⟩ = some (.int .i64 snx)) ∧
  (L 8 = true → ∃ g c, V 69 = .slice (some ⟨g, 0, none⟩) (l.length + 1) c ∧ B0 ≤ g ∧ W.ownsRow B0 e 3 (.slice (some ⟨g, 0, none⟩) (l.length + 1) c) (l.length + 1) (stL l ++ [.int .i64 sa, .int .i64 str, .int .i64 snx]) ∧ (L 10 = false → ∃ u, W.cell? ⟨w.heap.size + 1, i, none⟩ = some u) ∧ (L 10 = true → W.cell? ⟨w.heap.size + 1, i, none⟩ = some (.slice (some ⟨g, 0, none⟩) (l.length + 1) c))) ∧
  (L 10 = true → L 8 = true ∧ L 9 = true) ∧ (L 8 = true → L 5 = true ∧ L 7 = true) ∧ (L 7 = true → L 6 = true)
end Go.Proofs.Ytmhcmiajikffpaa
namespace Go.Proofs.Ytmhcmiajikffpaa
open Go.RowKit Go.Shelf Go.Sort
attribute [local go_sem] idx3_0 idx3_1 idx3_2 old1 fro1 old2 fro2 old3 fro3 old4 fro4 old5 fro5 old6 fro6 old7 fro7 old8 fro8 old9 fro9 old10 fro10 old11 fro11 old12 fro12
theorem infoSteps : (Try.prog.info? 104).map (fun i => (i.zero, i.size, i.bytes)) = some (some (.slice none 0 0), 1, 24) := by kernel_rfl
theorem undStepss : Try.prog.underlying 98 = some (.slice 104) := by kernel_rfl
/-- the targets from one on, their rows, the first ones of a row -/
def tlR (n : Nat) (xs : Nat → Int) (i : Nat) : List Int := (List.range' i (n - i)).map xs
def rwR (t lo hi ra : Int) (n : Nat) (xs : Nat → Int) (i : Nat) : List St := rowR t lo hi ra (tlR n xs i)
def gR (t lo hi ra : Int) (n : Nat) (xs : Nat → Int) (i : Nat) (p : Int) : Option St := bst ra p (rwR t lo hi ra n xs (i + 1)) (tlR n xs (i + 1)).isEmpty
def paR (t lo hi ra : Int) (n : Nat) (xs : Nat → Int) (i k : Nat) : List St := ((List.range k).map (posF t lo (xs i))).filterMap (gR t lo hi ra n xs i)
theorem tlR_s {n i : Nat} {xs : Nat → Int} (h : i < n) : tlR n xs i = xs i :: tlR n xs (i + 1) := by
  unfold tlR
  rw [show n - i = (n - (i + 1)) + 1 by omega, List.range'_succ, List.map_cons]
theorem tlR_e {n i : Nat} {xs : Nat → Int} (h : i < n) : (tlR n xs (i + 1)).isEmpty = decide (i + 1 = n) := by
  unfold tlR
  rw [List.isEmpty_map]
  by_cases e : i + 1 = n
  · rw [show n - (i + 1) = 0 by omega]
    simp [e]
  · rw [show n - (i + 1) = (n - (i + 1 + 1)) + 1 by omega, List.range'_succ]
    simp [e]
theorem tlR_0 (n : Nat) (xs : Nat → Int) : tlR n xs 0 = (List.range n).map xs := by
  unfold tlR
  rw [Nat.sub_zero, List.range_eq_range']
theorem rwR_n (t lo hi ra : Int) (n : Nat) (xs : Nat → Int) : rwR t lo hi ra n xs n = [] := by
  unfold rwR tlR
  rw [Nat.sub_self]
  rfl
theorem rwR_eq {t lo hi ra : Int} {n i : Nat} {xs : Nat → Int} (h : i < n) : rwR t lo hi ra n xs i = paR t lo hi ra n xs i (posN t lo hi (xs i)) := by
  show rowR t lo hi ra (tlR n xs i) = _
  rw [tlR_s h]
  show (psL t lo hi (xs i)).filterMap _ = _
  rw [psL_eq]
  rfl
theorem paR_s (t lo hi ra : Int) (n : Nat) (xs : Nat → Int) (i k : Nat) : paR t lo hi ra n xs i (k + 1) = paR t lo hi ra n xs i k ++ (gR t lo hi ra n xs i (posF t lo (xs i) k)).toList := by
  unfold paR
  rw [List.range_succ, List.map_append, List.filterMap_append]
  refine congrArg _ ?_
  simp only [List.map_cons, List.map_nil, List.filterMap_cons, List.filterMap_nil]
  cases gR t lo hi ra n xs i (posF t lo (xs i) k) <;> rfl
theorem paR_len (t lo hi ra : Int) (n : Nat) (xs : Nat → Int) (i k : Nat) : (paR t lo hi ra n xs i k).length ≤ k := by
  have := List.length_filterMap_le (gR t lo hi ra n xs i) ((List.range k).map (posF t lo (xs i)))
  simpa [paR] using this
theorem TT_bd {t lo hi ra : Int} : ∀ {xs : List Int} {p : Int} {ys : List Int}, TM t lo hi ra xs p ys → 0 ≤ TT p ys ∧ TT p ys ≤ ra * xs.length
  | [], _, [], _ => by simp [TT]
  | [], _, _ :: _, h => absurd h (fun h => h)
  | _ :: _, _, [], h => absurd h (fun h => h)
  | x :: xs, p, y :: ys, h => by
    have ih := TT_bd h.2.2.2
    have h3 := h.2.2.1
    have h0 := siz_nn (y - p)
    show 0 ≤ siz (y - p) + TT y ys ∧ siz (y - p) + TT y ys ≤ ra * ((xs.length + 1 : Nat) : Int)
    rw [Int.natCast_succ, Int.mul_add, Int.mul_one]
    omega
theorem rwR_bd {t lo hi ra : Int} {n i : Nat} {xs : Nat → Int} (t1 : 1 ≤ t) (l1 : -20000 ≤ lo) (h2 : hi ≤ 20000) (_ : 0 ≤ ra) (r1 : ra ≤ 40000) (hn : n ≤ 42) (j : Nat) (hj : j < (rwR t lo hi ra n xs i).length) :
    (-20000 ≤ ((rwR t lo hi ra n xs i).getD j St0).a ∧ ((rwR t lo hi ra n xs i).getD j St0).a ≤ 20000) ∧ 0 ≤ ((rwR t lo hi ra n xs i).getD j St0).tr ∧ ((rwR t lo hi ra n xs i).getD j St0).tr ≤ 4000000 := by
  have hi' : i < n := by
    rcases Nat.lt_or_ge i n with q | q
    · exact q
    · exfalso
      have e : rwR t lo hi ra n xs i = [] := by unfold rwR tlR; rw [show n - i = 0 by omega]; rfl
      rw [e] at hj
      exact absurd hj (Nat.not_lt_zero j)
  have hm : (rwR t lo hi ra n xs i).getD j St0 ∈ rwR t lo hi ra n xs i := by rw [getD_of hj]; exact List.getElem_mem hj
  have e : rwR t lo hi ra n xs i = (psL t lo hi (xs i)).filterMap fun p => bst ra p (rowR t lo hi ra (tlR n xs (i + 1))) (tlR n xs (i + 1)).isEmpty := by
    show rowR t lo hi ra (tlR n xs i) = _
    rw [tlR_s hi']
    rfl
  rw [e] at hm
  obtain ⟨q, q1, q2⟩ := List.mem_filterMap.1 hm
  rw [← e] at q2
  obtain ⟨⟨a1, a2⟩, _⟩ := (psL_mem t1).1 q1
  obtain ⟨b1, b2, b3, _⟩ := (bst_spec (lo := lo) (hi := hi) (ra := ra) t1 (tlR n xs (i + 1)) q).2 _ q2
  obtain ⟨c1, c2⟩ := TT_bd b2
  rw [b3] at c1 c2
  have c3 : ra * ((tlR n xs (i + 1)).length : Int) ≤ 40000 * 42 := Int.mul_le_mul r1 (by simp [tlR]; omega) (by omega) (by omega)
  omega
theorem posN_le {t lo hi x : Int} (t1 : 1 ≤ t) (l1 : -20000 ≤ lo) (h2 : hi ≤ 20000) : posN t lo hi x ≤ 40001 := by
  rcases Nat.lt_or_ge 40001 (posN t lo hi x) with q | q
  · have := (cnt_le t1).1 (show 40001 < cnt t (fstP t lo x) hi from q)
    have f := Int.emod_nonneg (x - lo) (show t ≠ 0 by omega)
    have : (40001 : Int) ≤ t * 40001 := by omega
    unfold fstP at *
    omega
  · exact q
/-- a finished row -/
def RO (B : Nat) (R : Nat → List St) (W : World) (j : Nat) : Prop := ∃ A c, W.cell? ⟨B, j, none⟩ = some (.slice A (R j).length c) ∧ SA W A (R j) ∧ ∀ a, A = some a → B < a.block
theorem RO.to {B : Nat} {R : Nat → List St} {W W1 : World} {j : Nat} (h : RO B R W j) (hb : Below W.heap.size W W1) : RO B R W1 j := by
  obtain ⟨A, c, h1, h2, h3⟩ := h
  exact ⟨A, c, keep hb h1, h2.below hb, h3⟩
def DC (w : World) (t lo hi st ra : Int) (W : World) : Prop := W.cell? ⟨w.heap.size, 0, none⟩ = some (.int .i64 t) ∧ W.cell? ⟨w.heap.size, 1, none⟩ = some (.int .i64 lo) ∧ W.cell? ⟨w.heap.size, 2, none⟩ = some (.int .i64 hi) ∧ W.cell? ⟨w.heap.size, 3, none⟩ = some (.int .i64 st) ∧ W.cell? ⟨w.heap.size, 4, none⟩ = some (.int .i64 ra)
theorem DC.to {w : World} {t lo hi st ra : Int} {W W1 : World} (h : DC w t lo hi st ra W) (hb : Below W.heap.size W W1) : DC w t lo hi st ra W1 := ⟨keep hb h.1, keep hb h.2.1, keep hb h.2.2.1, keep hb h.2.2.2.1, keep hb h.2.2.2.2⟩
def OJ (w : World) (t lo hi st ra : Int) (n : Nat) (R : Nat → List St) (u : Nat) (W : World) : Prop :=
  Below w.heap.size w W ∧ w.heap.size + 1 < W.heap.size ∧ DC w t lo hi st ra W ∧ (∀ j, W.frozen? ⟨w.heap.size + 1, j, none⟩ = false) ∧ (∀ j, u ≤ j → j ≤ n → RO (w.heap.size + 1) R W j) ∧ ∀ j, j < u → W.cell? ⟨w.heap.size + 1, j, none⟩ = some (.slice none 0 0)
theorem OJ.to {w : World} {t lo hi st ra : Int} {n : Nat} {R : Nat → List St} {u : Nat} {W W1 : World} (h : OJ w t lo hi st ra n R u W) (hb : Below W.heap.size W W1) : OJ w t lo hi st ra n R u W1 :=
  ⟨belowT h.1 hb, Nat.lt_of_lt_of_le h.2.1 hb.size, h.2.2.1.to hb, fun j => (hb.frozen (p := ⟨w.heap.size + 1, j, none⟩) h.2.1).trans (h.2.2.2.1 j), fun j h1 h2 => (h.2.2.2.2.1 j h1 h2).to hb, fun j hj => keep hb (h.2.2.2.2.2 j hj)⟩
/-- what the rounds over the positions keep: all that was there but the cell of the row, which they own -/
def IJ (w wo : World) (i B0 : Nat) (l : List St) (W : World) : Prop :=
  (∀ b o u, b < B0 → ¬ (b = w.heap.size + 1 ∧ o = i) → wo.cell? ⟨b, o, none⟩ = some u → W.cell? ⟨b, o, none⟩ = some u) ∧ (∀ j, W.frozen? ⟨w.heap.size + 1, j, none⟩ = false) ∧ Below w.heap.size w W ∧ B0 ≤ W.heap.size ∧
  ∃ A c, W.cell? ⟨w.heap.size + 1, i, none⟩ = some (.slice A l.length c) ∧ W.ownsRow B0 101 3 (.slice A l.length c) l.length (stL l)
theorem IJ.to {w wo : World} {i B0 : Nat} {l : List St} {W W1 : World} (h : IJ w wo i B0 l W) (hRB : w.heap.size + 1 < B0) (hb : Below W.heap.size W W1) : IJ w wo i B0 l W1 := by
  obtain ⟨h1, h2, h3, h4, A, c, h5, h6⟩ := h
  exact ⟨fun b o u q1 q2 q3 => keep hb (h1 b o u q1 q2 q3), fun j => (hb.frozen (p := ⟨w.heap.size + 1, j, none⟩) (Nat.lt_of_lt_of_le hRB h4)).trans (h2 j), belowT h3 hb, Nat.le_trans h4 hb.size, A, c, keep hb h5, own_below h6 hb⟩
theorem IJ.dc {w wo : World} {i B0 : Nat} {l : List St} {W : World} {t lo hi st ra : Int} (h : IJ w wo i B0 l W) (hRB : w.heap.size + 1 < B0) (hd : DC w t lo hi st ra wo) : DC w t lo hi st ra W := by
  have q : w.heap.size < B0 := by omega
  have ne : ∀ o, ¬ (w.heap.size = w.heap.size + 1 ∧ o = i) := fun o e => by omega
  exact ⟨h.1 _ _ _ q (ne 0) hd.1, h.1 _ _ _ q (ne 1) hd.2.1, h.1 _ _ _ q (ne 2) hd.2.2.1, h.1 _ _ _ q (ne 3) hd.2.2.2.1, h.1 _ _ _ q (ne 4) hd.2.2.2.2⟩
theorem IJ.ro {w wo : World} {i : Nat} {l : List St} {W : World} {R : Nat → List St} {j : Nat} (h : IJ w wo i wo.heap.size l W) (hRB : w.heap.size + 1 < wo.heap.size) (hj : j ≠ i) (hr : RO (w.heap.size + 1) R wo j) : RO (w.heap.size + 1) R W j := by
  obtain ⟨A, c, h1, h2, h3⟩ := hr
  refine ⟨A, c, h.1 _ _ _ hRB (fun e => hj e.2) h1, fun h0 => ?_, h3⟩
  obtain ⟨g, rfl, hc⟩ := h2 h0
  have hg : w.heap.size + 1 < g := h3 _ rfl
  exact ⟨g, rfl, fun q hq => ⟨h.1 _ _ _ (lt_of (hc q hq).1) (fun e => by omega) (hc q hq).1, h.1 _ _ _ (lt_of (hc q hq).2.1) (fun e => by omega) (hc q hq).2.1, h.1 _ _ _ (lt_of (hc q hq).2.2) (fun e => by omega) (hc q hq).2.2⟩⟩
theorem IJ.own {w wo : World} {i : Nat} {W : World} {R : Nat → List St} (hRB : w.heap.size + 1 < wo.heap.size) (h : IJ w wo i wo.heap.size (R i) W) : RO (w.heap.size + 1) R W i := by
  obtain ⟨_, _, _, _, A, c, h5, h6⟩ := h
  obtain ⟨e1, e2⟩ := own_SA h6
  refine ⟨A, c, h5, by simpa [sA] using e2, fun a ha => ?_⟩
  subst ha
  have := (h6.lt a.block rfl).1
  omega
end Go.Proofs.Ytmhcmiajikffpaa
