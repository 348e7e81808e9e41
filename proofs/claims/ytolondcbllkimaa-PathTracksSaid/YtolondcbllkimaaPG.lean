/- Helpers: the copy of a track. -/
import Derived.Test.YtolondcbllkimaaPF
import Derived.Test.YtolondcbllkimaaZ0
import Derived.Deep.AppendLies
namespace Go.Proofs.Ytolondcbllkimaa
open Go.RowKit Go.Shelf Go.Sort
attribute [local go_sem] idx3_0 idx3_1 idx3_2 old1 fro1 old2 fro2 old3 fro3 old4 fro4 old5 fro5 old6 fro6 old7 fro7 old8 fro8 old9 fro9 old10 fro10 old11 fro11 old12 fro12
theorem infoKnot : (Try.prog.info? 120).map (fun i => (i.zero, i.size, i.bytes)) = some (some (.agg #[.int .i64 0, .int .i64 0, .int .i64 0, .int .i64 0]), 4, 32) := by kernel_rfl
theorem undKnots : Try.prog.underlying 22 = some (.slice 120) := by kernel_rfl
def fld (q : Knot) (r : Nat) : Value := if r = 0 then .int .i64 q.t else if r = 1 then .int .i64 q.x else if r = 2 then .int .i64 q.y else .int .i64 q.z
def knotsL (n : Nat) (k : Nat → Knot) : List Value := (List.range (n * 4)).map fun j => fld (k (j / 4)) (j % 4)
theorem knotsL_get {n : Nat} {k : Nat → Knot} {i r : Nat} (hi : i < n) (hr : r < 4) : (knotsL n k)[i * 4 + r]? = some (fld (k i) r) := by
  have h : i * 4 + r < n * 4 := by omega
  have e1 : (i * 4 + r) / 4 = i := by omega
  have e2 : (i * 4 + r) % 4 = r := by omega
  simp [knotsL, h, e1, e2]
theorem knots_news {w : World} {b off n : Nat} {k : Nat → Knot} (hk : KAt w b off n k) : ∀ j u, (knotsL n k)[j]? = some u → w.cell? ((⟨b, off, none⟩ : Addr).add j) = some u := by
  intro j u hu
  have hj : j < n * 4 := by
    have := (List.getElem?_eq_some_iff.1 hu).1
    simpa [knotsL] using this
  obtain ⟨i, r, hr, rfl⟩ : ∃ i r, r < 4 ∧ j = i * 4 + r := ⟨j / 4, j % 4, by omega, by omega⟩
  have hi : i < n := by omega
  rw [knotsL_get hi hr] at hu
  obtain ⟨c1, c2, c3, c4⟩ := hk.2 i hi
  rw [addr_add, ← hu]
  rcases (by omega : r = 0 ∨ r = 1 ∨ r = 2 ∨ r = 3) with rfl | rfl | rfl | rfl
  · exact c1
  · rw [show off + (i * 4 + 1) = off + i * 4 + 1 by omega]; exact c2
  · rw [show off + (i * 4 + 2) = off + i * 4 + 2 by omega]; exact c3
  · rw [show off + (i * 4 + 3) = off + i * 4 + 3 by omega]; exact c4
theorem own_knots {w : World} {base e n : Nat} {v : Value} {k : Nat → Knot} (h : w.ownsRow base e 4 v n (knotsL n k)) : v = .slice (sA v) n (sC v) ∧ KA w (sA v) n k := by
  obtain ⟨h1, h2⟩ := own_parts h
  refine ⟨h1, fun h0 => ?_⟩
  obtain ⟨h3, h4⟩ := h2 h0
  rw [h3] at h1
  rw [h1] at h
  have hc := fun i r (hi : i < n) (hr : r < 4) => h.cells (g := sG v) rfl (i * 4 + r) (fld (k i) r) (knotsL_get hi hr)
  refine ⟨sG v, 0, h3, lt_of (show w.cell? ⟨sG v, 0 + (0 * 4 + 0), none⟩ = some (fld (k 0) 0) from (by have := hc 0 0 h0 (by decide); rwa [addr_add] at this)), fun i hi => ⟨?_, ?_, ?_, ?_⟩⟩
  · have := hc i 0 hi (by decide); rw [addr_add] at this; exact this
  · have := hc i 1 hi (by decide); rw [addr_add] at this; rw [show 0 + i * 4 + 1 = 0 + (i * 4 + 1) by omega]; exact this
  · have := hc i 2 hi (by decide); rw [addr_add] at this; rw [show 0 + i * 4 + 2 = 0 + (i * 4 + 2) by omega]; exact this
  · have := hc i 3 hi (by decide); rw [addr_add] at this; rw [show 0 + i * 4 + 3 = 0 + (i * 4 + 3) by omega]; exact this
theorem fld_one (q : Knot) (r : Nat) : (fld q r).oneCell' = true := by
  unfold fld
  split
  · rfl
  · split
    · rfl
    · split <;> rfl
theorem lcf0 (a : Addr) (acc : Array Value) (w : World) : (loadCellsFrom a 0 0 acc).run Try.prog w = .ok acc w := rfl
theorem scl0 (a : Addr) (w : World) : (storeCells a []).run Try.prog w = .ok () w := rfl
attribute [local go_sem] lcf0 scl0
set_option maxRecDepth 100000 in
set_option maxHeartbeats 800000 in
theorem copyT_0 (A : Option Addr) (c : Nat) (d : Int) (w : World) (h0 : A = none → c = 0) :
    Calls Try.prog 12 #[.agg #[.slice A 0 c, .int .i64 d]] w fun e w' => ∃ A' c', e = .returned (.agg #[.slice A' 0 c', .int .i64 d]) ∧ Below w.heap.size w w' := by
  cases A with
  | none =>
    obtain rfl := h0 rfl
    go_enter Try.func12, Try.ntmps12
    go_wp2_with fail
    go_region_held3 (fun w' => w'.cell? ⟨w.heap.size, 0, none⟩ = some (.slice none 0 0) ∧ w'.cell? ⟨w.heap.size, 1, none⟩ = some (.int .i64 d)) (simp [go_sem, *]) (first | fail)
    all_goals
      go_wp2_with fail
      refine bodyPost_ret (v := .agg #[.slice (some ⟨w.heap.size + 1 + 1, 0, none⟩) 0 0, .int .i64 d]) (by simp [results, Try.results12, go_sem]) rfl ⟨_, _, rfl, by (repeat (first | with_reducible exact Below.refl _ _ | with_reducible assumption | with_reducible refine Below.alloc ?_ (by first | (simp; done) | (simp; omega) | omega) _ | with_reducible refine Below.setCell ?_ (by first | (simp; done) | (simp; omega) | omega) _ | with_reducible refine Below.drew ?_ | with_reducible refine below_drewN ?_ _))⟩
  | some a =>
    go_enter Try.func12, Try.ntmps12
    go_wp2_with fail
    go_region_held3 (fun w' => w'.cell? ⟨w.heap.size, 0, none⟩ = some (.slice (some a) 0 c) ∧ w'.cell? ⟨w.heap.size, 1, none⟩ = some (.int .i64 d)) (simp [go_sem, *]) (first | fail)
    all_goals
      go_wp2_with fail
      refine bodyPost_ret (v := .agg #[.slice (some ⟨w.heap.size + 1 + 1, 0, none⟩) 0 0, .int .i64 d]) (by simp [results, Try.results12, go_sem]) rfl ⟨_, _, rfl, by (repeat (first | with_reducible exact Below.refl _ _ | with_reducible assumption | with_reducible refine Below.alloc ?_ (by first | (simp; done) | (simp; omega) | omega) _ | with_reducible refine Below.setCell ?_ (by first | (simp; done) | (simp; omega) | omega) _ | with_reducible refine Below.drew ?_ | with_reducible refine below_drewN ?_ _))⟩
theorem own_new {e : TypeId} {sz : Nat} (W : World) (B : Nat) (h : W.heap.size = B) : ((W.alloc (.cells #[] e)).drew).ownsRow B e sz (.slice (some ⟨B, 0, none⟩) 0 0) 0 [] := by
  subst h
  exact World.ownsRow.drew (World.ownsRow_made W #[] 0 (Nat.le_refl _) (by unfold maxLen; omega) (by simp))
theorem knots_one (n : Nat) (k : Nat → Knot) : ∀ u ∈ knotsL n k, u.oneCell' = true := by
  intro u hu
  obtain ⟨j, _, rfl⟩ := List.mem_map.1 hu
  exact fld_one _ _
theorem own_knots2 {w : World} {base e n g cap : Nat} {k : Nat → Knot} (h : w.ownsRow base e 4 (.slice (some ⟨g, 0, none⟩) n cap) n (knotsL n k)) (h0 : 0 < n) : KAt w g 0 n k := by
  obtain ⟨_, h2⟩ := own_knots h
  obtain ⟨b, off, e1, e2⟩ := h2 h0
  have e3 : sA (.slice (some ⟨g, 0, none⟩) n cap) = some ⟨g, 0, none⟩ := rfl
  rw [e3] at e1
  cases e1
  exact e2
theorem g_ge {w : World} {base e sz m n g cap : Nat} {xs : List Value} (h : w.ownsRow base e sz (.slice (some ⟨g, 0, none⟩) m cap) n xs) : base ≤ g := (h.lt g rfl).1
theorem kat_set {w : World} {b off n : Nat} {k : Nat → Knot} {a : Addr} {v : Value} (h : KAt w b off n k) (ha : a.block ≠ b) : KAt (w.setCell a v) b off n k := by
  have hn : ∀ o, a ≠ ⟨b, o, none⟩ := fun o e => ha (by rw [e])
  refine ⟨by simpa [World.setCell] using h.1, fun i hi => ?_⟩
  obtain ⟨c1, c2, c3, c4⟩ := h.2 i hi
  exact ⟨(World.cell?_setCell_other w a _ v (hn _)).trans c1, (World.cell?_setCell_other w a _ v (hn _)).trans c2, (World.cell?_setCell_other w a _ v (hn _)).trans c3, (World.cell?_setCell_other w a _ v (hn _)).trans c4⟩
set_option maxRecDepth 100000 in
set_option maxHeartbeats 800000 in
theorem copyT_some (b off n c : Nat) (d : Int) (k : Nat → Knot) (w : World) (h0 : 0 < n) (hn : n ≤ 1000000) (hk : KAt w b off n k) :
    Calls Try.prog 12 #[.agg #[.slice (some ⟨b, off, none⟩) n c, .int .i64 d]] w fun e w' => ∃ A' c', e = .returned (.agg #[.slice A' n c', .int .i64 d]) ∧ KA w' A' n k ∧ Below w.heap.size w w' := by
  obtain ⟨i0, hi0, hzz⟩ := Option.map_eq_some_iff.1 infoKnot
  simp only [Prod.mk.injEq] at hzz
  obtain ⟨hz0, hz1, hz2⟩ := hzz
  have HN := Lib.hid hk
  clear hk
  go_enter Try.func12, Try.ntmps12
  go_wp2_with fail
  have hb := HN.out.1
  go_region_held3 (fun w' => w'.cell? ⟨w.heap.size, 0, none⟩ = some (.slice (some ⟨b, off, none⟩) n c) ∧ w'.cell? ⟨w.heap.size, 1, none⟩ = some (.int .i64 d)) (simp [go_sem, *])
    (first
      | (go_loud (
          refine step_append_lies (P := Try.prog) _ ?_ (.tmp 3) (.tmp 5) 22 ?_ (w.heap.size + 1 + 1) 120 i0 (.agg #[.int .i64 0, .int .i64 0, .int .i64 0, .int .i64 0]) 4 32 undKnots hi0 hz0 hz1 hz2 ?_ ?_ (.slice (some ⟨w.heap.size + 1 + 1, 0, none⟩) 0 0) 0 [] ?_ ?_ ⟨b, off, none⟩ n c (knotsL n k) ?_ ?_ ?_ ?_ h0 ?_ ?_ ?_ (w.heap.size + 1 + 1 + 1) ?_ ?_;
          (focus rfl);
          (focus rfl);
          (focus rfl);
          (focus decide);
          (focus (simp [Act.eval]));
          (focus (exact own_new _ _ (by simp)));
          (focus (simp [Act.eval]));
          (focus (simp [knotsL]));
          (focus (exact knots_news (HN.out.below (B := w.heap.size) (by (repeat (first | with_reducible exact Below.refl _ _ | with_reducible assumption | with_reducible refine Below.alloc ?_ (by first | (simp; done) | (simp; omega) | omega) _ | with_reducible refine Below.setCell ?_ (by first | (simp; done) | (simp; omega) | omega) _ | with_reducible refine Below.drew ?_ | with_reducible refine below_drewN ?_ _))) hb)));
          (focus (exact knots_one n k));
          (focus (unfold maxLen; omega));
          (focus omega);
          (focus (simp));
          (focus (simp));
          intro g cap w1 hown hgrow hat hlt;
          have hB : Hid (Below w.heap.size w w1) := (by (repeat (first | with_reducible exact Below.refl _ _ | with_reducible assumption | with_reducible refine Below.alloc ?_ (by first | (simp; done) | (simp; omega) | omega) _ | with_reducible refine Below.setCell ?_ (by first | (simp; done) | (simp; omega) | omega) _ | with_reducible refine Below.drew ?_ | with_reducible refine below_drewN ?_ _)) : Below w.heap.size w _).grown hgrow (by first | (simp; done) | (simp; omega) | omega) (fun q hq => by cases hq; show w.heap.size ≤ w.heap.size + 1 + 1; omega);
          have hKA := Lib.hid (own_knots2 (by simpa using hown) h0);
          have e0 := hgrow.cell (a := ⟨w.heap.size, 0, none⟩) (show _ = some (.slice (some ⟨b, off, none⟩) n c) by simp [go_sem]) (by simp [Value.ownBlock]; omega);
          have e1 := hgrow.cell (a := ⟨w.heap.size, 1, none⟩) (show _ = some (.int .i64 d) by simp [go_sem]) (by simp [Value.ownBlock]; omega);
          have r0 := hgrow.cell (a := ⟨w.heap.size + 1, 0, none⟩) (show _ = some (.slice none 0 0) by simp [go_sem]) (by simp [Value.ownBlock]);
          have r1 := hgrow.cell (a := ⟨w.heap.size + 1, 1, none⟩) (show _ = some (.int .i64 0) by simp [go_sem]) (by simp [Value.ownBlock]);
          have f0 := (World.frozen?_of_block (a := ⟨w.heap.size + 1, 0, none⟩) (hgrow.block (w.heap.size + 1) (by first | (simp; done) | (simp; omega) | omega) (by simp [Value.ownBlock]))).trans (show _ = false by simp [go_sem]);
          have f1 := (World.frozen?_of_block (a := ⟨w.heap.size + 1, 1, none⟩) (hgrow.block (w.heap.size + 1) (by first | (simp; done) | (simp; omega) | omega) (by simp [Value.ownBlock]))).trans (show _ = false by simp [go_sem]);
          rw [Nat.zero_add];
          have hG := Lib.hid (g_ge hown);
          clear hown hgrow hat hlt)))
  all_goals
    go_wp2_with fail
    have hg2 := hG.out
    have hw1 : w.heap.size ≤ w.heap.size + 1 := by omega
    have hw2 := hB.out
    refine bodyPost_ret (v := .agg #[.slice (some ⟨g, 0, none⟩) n cap, .int .i64 d]) (by simp [results, Try.results12, go_sem, r0, r1]) rfl ⟨_, _, rfl, fun _ => ⟨g, 0, rfl, kat_set (kat_set hKA.out (by show w.heap.size + 1 ≠ g; omega)) (by show w.heap.size + 1 ≠ g; omega)⟩, by (repeat (first | with_reducible exact Below.refl _ _ | with_reducible assumption | with_reducible refine Below.alloc ?_ (by first | (simp; done) | (simp; omega) | omega) _ | with_reducible refine Below.setCell ?_ (by first | (simp; done) | (simp; omega) | omega) _ | with_reducible refine Below.drew ?_ | with_reducible refine below_drewN ?_ _))⟩
theorem copyT_any (A : Option Addr) (n c : Nat) (d : Int) (k : Nat → Knot) (w : World) (hn : n ≤ 1000000) (h0 : A = none → n = 0 ∧ c = 0) (hk : KA w A n k) :
    Calls Try.prog 12 #[.agg #[.slice A n c, .int .i64 d]] w fun e w' => ∃ A' c', e = .returned (.agg #[.slice A' n c', .int .i64 d]) ∧ KA w' A' n k ∧ Below w.heap.size w w' := by
  rcases Nat.eq_zero_or_pos n with e | e
  · subst e
    exact (copyT_0 A c d w (fun q => (h0 q).2)).mono fun e w' ⟨A', c', he, hb⟩ => ⟨A', c', he, fun h => absurd h (Nat.lt_irrefl 0), hb⟩
  · obtain ⟨b, off, rfl, hk2⟩ := hk e
    exact copyT_some b off n c d k w e hn hk2
end Go.Proofs.Ytolondcbllkimaa
