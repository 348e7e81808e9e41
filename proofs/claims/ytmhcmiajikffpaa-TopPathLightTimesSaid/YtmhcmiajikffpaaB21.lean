/- Helpers: rows of numbers that the call itself made. -/
import Derived.Test.YtmhcmiajikffpaaB04
import Derived.Test.YtmhcmiajikffpaaB02
import Derived.Test.YtmhcmiajikffpaaB20
import Derived.Test.YtmhcmiajikffpaaB15
import Derived.Deep.AppendLies
import Derived.Laws.OwnMore
import Derived.Test.YtmhcmiajikffpaaB19
namespace Go.Proofs.Ytmhcmiajikffpaa
open Go.RowKit Go.Shelf Go.Sort
theorem addr_addI (b o i : Nat) : ((⟨b, o, none⟩ : Addr).add i) = ⟨b, o + i, none⟩ := by simp [Addr.add]
def intsV (n : Nat) (xs : Nat → Int) : List Value := (List.range n).map fun i => .int .i64 (xs i)
theorem intsV_s (n : Nat) (xs : Nat → Int) : intsV (n + 1) xs = intsV n xs ++ [.int .i64 (xs n)] := by simp [intsV, List.range_succ]
theorem intsV_len (n : Nat) (xs : Nat → Int) : (intsV n xs).length = n := by simp [intsV]
theorem own_intsV {w : World} {base e n : Nat} {v : Value} {xs : Nat → Int} (h : w.ownsRow base e 1 v n (intsV n xs)) : v = .slice (sA v) n (sC v) ∧ IA w (sA v) n xs := by
  obtain ⟨h1, h2⟩ := own_parts h
  refine ⟨h1, fun h0 => ?_⟩
  obtain ⟨h3, h4⟩ := h2 h0
  rw [h3] at h1
  rw [h1] at h
  refine ⟨sG v, 0, h3, fun i hi => ?_⟩
  have hc := h.cells (g := sG v) rfl i (.int .i64 (xs i)) (by simp [intsV, hi])
  rwa [addr_addI] at hc
theorem IA.less {w : World} {A : Option Addr} {n m : Nat} {xs : Nat → Int} (h : IA w A n xs) (hm : m ≤ n) : IA w A m xs := fun h0 => by
  obtain ⟨b, off, e, hc⟩ := h (by omega)
  exact ⟨b, off, e, fun i hi => hc i (by omega)⟩
theorem IA.same {w : World} {A : Option Addr} {n : Nat} {xs ys : Nat → Int} (h : IA w A n xs) (he : ∀ i, i < n → xs i = ys i) : IA w A n ys := fun h0 => by
  obtain ⟨b, off, e, hc⟩ := h h0
  exact ⟨b, off, e, fun i hi => by rw [← he i hi]; exact hc i hi⟩
end Go.Proofs.Ytmhcmiajikffpaa
namespace Go.Proofs.Ytmhcmiajikffpaa
open Go.RowKit Go.Shelf Go.Sort
attribute [local go_sem] idx3_0 idx3_1 idx3_2 old1 fro1 old2 fro2 old3 fro3 old4 fro4 old5 fro5 old6 fro6 old7 fro7 old8 fro8 old9 fro9 old10 fro10 old11 fro11 old12 fro12
theorem infoKnot : (Try.prog.info? 107).map (fun i => (i.zero, i.size, i.bytes)) = some (some (.agg #[.int .i64 0, .int .i64 0, .int .i64 0, .int .i64 0]), 4, 32) := by kernel_rfl
theorem undKnots : Try.prog.underlying 22 = some (.slice 107) := by kernel_rfl
def fld (q : Knot) (r : Nat) : Value := if r = 0 then .int .i64 q.t else if r = 1 then .int .i64 q.x else if r = 2 then .int .i64 q.y else .int .i64 q.z
def knotsL (n : Nat) (k : Nat → Knot) : List Value := (List.range (n * 4)).map fun j => fld (k (j / 4)) (j % 4)
theorem knotsL_get {n : Nat} {k : Nat → Knot} {i r : Nat} (hi : i < n) (hr : r < 4) : (knotsL n k)[i * 4 + r]? = some (fld (k i) r) := by
  have h : i * 4 + r < n * 4 := by omega
  have e1 : (i * 4 + r) / 4 = i := by omega
  have e2 : (i * 4 + r) % 4 = r := by omega
  simp [knotsL, h, e1, e2]
theorem knots_news {w : World} {b off n : Nat} {k : Nat → Knot} (hk : KAt w b off n k) : ∀ j u, (knotsL n k)[j]? = some u → w.cell? ((⟨b, off, none⟩ : Addr).add j) = some u := by
  intro j u hu
  have hj : j < n * 4 := by
    have := (List.getElem?_eq_some_iff.1 hu).1
    simpa [knotsL] using this
  obtain ⟨i, r, hr, rfl⟩ : ∃ i r, r < 4 ∧ j = i * 4 + r := ⟨j / 4, j % 4, by omega, by omega⟩
  have hi : i < n := by omega
  rw [knotsL_get hi hr] at hu
  obtain ⟨c1, c2, c3, c4⟩ := hk.2 i hi
  rw [addr_add, ← hu]
  rcases (by omega : r = 0 ∨ r = 1 ∨ r = 2 ∨ r = 3) with rfl | rfl | rfl | rfl
  · exact c1
  · rw [show off + (i * 4 + 1) = off + i * 4 + 1 by omega]; exact c2
  · rw [show off + (i * 4 + 2) = off + i * 4 + 2 by omega]; exact c3
  · rw [show off + (i * 4 + 3) = off + i * 4 + 3 by omega]; exact c4
theorem own_knots {w : World} {base e n : Nat} {v : Value} {k : Nat → Knot} (h : w.ownsRow base e 4 v n (knotsL n k)) : v = .slice (sA v) n (sC v) ∧ KA w (sA v) n k := by
  obtain ⟨h1, h2⟩ := own_parts h
  refine ⟨h1, fun h0 => ?_⟩
  obtain ⟨h3, h4⟩ := h2 h0
  rw [h3] at h1
  rw [h1] at h
  have hc := fun i r (hi : i < n) (hr : r < 4) => h.cells (g := sG v) rfl (i * 4 + r) (fld (k i) r) (knotsL_get hi hr)
  refine ⟨sG v, 0, h3, lt_of (show w.cell? ⟨sG v, 0 + (0 * 4 + 0), none⟩ = some (fld (k 0) 0) from (by have := hc 0 0 h0 (by decide); rwa [addr_add] at this)), fun i hi => ⟨?_, ?_, ?_, ?_⟩⟩
  · have := hc i 0 hi (by decide); rw [addr_add] at this; exact this
  · have := hc i 1 hi (by decide); rw [addr_add] at this; rw [show 0 + i * 4 + 1 = 0 + (i * 4 + 1) by omega]; exact this
  · have := hc i 2 hi (by decide); rw [addr_add] at this; rw [show 0 + i * 4 + 2 = 0 + (i * 4 + 2) by omega]; exact this
  · have := hc i 3 hi (by decide); rw [addr_add] at this; rw [show 0 + i * 4 + 3 = 0 + (i * 4 + 3) by omega]; exact this
theorem fld_one (q : Knot) (r : Nat) : (fld q r).oneCell' = true := by
  unfold fld
  split
  · rfl
  · split
    · rfl
    · split <;> rfl
theorem lcf0 (a : Addr) (acc : Array Value) (w : World) : (loadCellsFrom a 0 0 acc).run Try.prog w = .ok acc w := rfl
theorem scl0 (a : Addr) (w : World) : (storeCells a []).run Try.prog w = .ok () w := rfl
attribute [local go_sem] lcf0 scl0
set_option maxRecDepth 100000 in
set_option maxHeartbeats 800000 in
theorem copyT_0 (A : Option Addr) (c : Nat) (d : Int) (w : World) (h0 : A = none → c = 0) :
    Calls Try.prog 14 #[.agg #[.slice A 0 c, .int .i64 d]] w fun e w' => ∃ A' c', e = .returned (.agg #[.slice A' 0 c', .int .i64 d]) ∧ Below w.heap.size w w' := by
  cases A with
  | none =>
    obtain rfl := h0 rfl
    go_enter Try.func14, Try.ntmps14
    go_wp2_with fail
    go_region_held3 (fun w' => w'.cell? ⟨w.heap.size, 0, none⟩ = some (.slice none 0 0) ∧ w'.cell? ⟨w.heap.size, 1, none⟩ = some (.int .i64 d)) (simp [go_sem, *]) (first | fail)
    all_goals
      go_wp2_with fail
      refine bodyPost_ret (v := .agg #[.slice (some ⟨w.heap.size + 1 + 1, 0, none⟩) 0 0, .int .i64 d]) (by simp [results, Try.results14, go_sem]) rfl ⟨_, _, rfl, by (repeat (first | with_reducible exact Below.refl _ _ | with_reducible assumption | with_reducible refine Below.alloc ?_ (by first | (simp; done) | (simp; omega) | omega) _ | with_reducible refine Below.setCell ?_ (by first | (simp; done) | (simp; omega) | omega) _ | with_reducible refine Below.drew ?_ | with_reducible refine below_drewN ?_ _))⟩
  | some a =>
    go_enter Try.func14, Try.ntmps14
    go_wp2_with fail
    go_region_held3 (fun w' => w'.cell? ⟨w.heap.size, 0, none⟩ = some (.slice (some a) 0 c) ∧ w'.cell? ⟨w.heap.size, 1, none⟩ = some (.int .i64 d)) (simp [go_sem, *]) (first | fail)
    all_goals
      go_wp2_with fail
      refine bodyPost_ret (v := .agg #[.slice (some ⟨w.heap.size + 1 + 1, 0, none⟩) 0 0, .int .i64 d]) (by simp [results, Try.results14, go_sem]) rfl ⟨_, _, rfl, by (repeat (first | with_reducible exact Below.refl _ _ | with_reducible assumption | with_reducible refine Below.alloc ?_ (by first | (simp; done) | (simp; omega) | omega) _ | with_reducible refine Below.setCell ?_ (by first | (simp; done) | (simp; omega) | omega) _ | with_reducible refine Below.drew ?_ | with_reducible refine below_drewN ?_ _))⟩
theorem own_new {e : TypeId} {sz : Nat} (W : World) (B : Nat) (h : W.heap.size = B) : ((W.alloc (.cells #[] e)).drew).ownsRow B e sz (.slice (some ⟨B, 0, none⟩) 0 0) 0 [] := by
  subst h
  exact World.ownsRow.drew (World.ownsRow_made W #[] 0 (Nat.le_refl _) (by unfold maxLen; omega) (by simp))
theorem knots_one (n : Nat) (k : Nat → Knot) : ∀ u ∈ knotsL n k, u.oneCell' = true := by
  intro u hu
  obtain ⟨j, _, rfl⟩ := List.mem_map.1 hu
  exact fld_one _ _
theorem own_knots2 {w : World} {base e n g cap : Nat} {k : Nat → Knot} (h : w.ownsRow base e 4 (.slice (some ⟨g, 0, none⟩) n cap) n (knotsL n k)) (h0 : 0 < n) : KAt w g 0 n k := by
  obtain ⟨_, h2⟩ := own_knots h
  obtain ⟨b, off, e1, e2⟩ := h2 h0
  have e3 : sA (.slice (some ⟨g, 0, none⟩) n cap) = some ⟨g, 0, none⟩ := rfl
  rw [e3] at e1
  cases e1
  exact e2
theorem g_ge {w : World} {base e sz m n g cap : Nat} {xs : List Value} (h : w.ownsRow base e sz (.slice (some ⟨g, 0, none⟩) m cap) n xs) : base ≤ g := (h.lt g rfl).1
theorem kat_set {w : World} {b off n : Nat} {k : Nat → Knot} {a : Addr} {v : Value} (h : KAt w b off n k) (ha : a.block ≠ b) : KAt (w.setCell a v) b off n k := by
  have hn : ∀ o, a ≠ ⟨b, o, none⟩ := fun o e => ha (by rw [e])
  refine ⟨by simpa [World.setCell] using h.1, fun i hi => ?_⟩
  obtain ⟨c1, c2, c3, c4⟩ := h.2 i hi
  exact ⟨(World.cell?_setCell_other w a _ v (hn _)).trans c1, (World.cell?_setCell_other w a _ v (hn _)).trans c2, (World.cell?_setCell_other w a _ v (hn _)).trans c3, (World.cell?_setCell_other w a _ v (hn _)).trans c4⟩
set_option maxRecDepth 100000 in
set_option maxHeartbeats 800000 in
theorem copyT_some (b off n c : Nat) (d : Int) (k : Nat → Knot) (w : World) (h0 : 0 < n) (hn : n ≤ 1000000) (hk : KAt w b off n k) :
    Calls Try.prog 14 #[.agg #[.slice (some ⟨b, off, none⟩) n c, .int .i64 d]] w fun e w' => ∃ A' c', e = .returned (.agg #[.slice A' n c', .int .i64 d]) ∧ KA w' A' n k ∧ Below w.heap.size w w' := by
  obtain ⟨i0, hi0, hzz⟩ := Option.map_eq_some_iff.1 infoKnot
  simp only [Prod.mk.injEq] at hzz
  obtain ⟨hz0, hz1, hz2⟩ := hzz
  have HN := Lib.hid hk
  clear hk
  go_enter Try.func14, Try.ntmps14
  go_wp2_with fail
  have hb := HN.out.1
  go_region_held3 (fun w' => w'.cell? ⟨w.heap.size, 0, none⟩ = some (.slice (some ⟨b, off, none⟩) n c) ∧ w'.cell? ⟨w.heap.size, 1, none⟩ = some (.int .i64 d)) (simp [go_sem, *])
    (first
      | (go_loud (
          refine step_append_lies (P := Try.prog) _ ?_ (.tmp 3) (.tmp 5) 22 ?_ (w.heap.size + 1 + 1) 107 i0 (.agg #[.int .i64 0, .int .i64 0, .int .i64 0, .int .i64 0]) 4 32 undKnots hi0 hz0 hz1 hz2 ?_ ?_ (.slice (some ⟨w.heap.size + 1 + 1, 0, none⟩) 0 0) 0 [] ?_ ?_ ⟨b, off, none⟩ n c (knotsL n k) ?_ ?_ ?_ ?_ h0 ?_ ?_ ?_ (w.heap.size + 1 + 1 + 1) ?_ ?_;
          (focus rfl);
          (focus rfl);
          (focus rfl);
          (focus decide);
          (focus (simp [Act.eval]));
          (focus (exact own_new _ _ (by simp)));
          (focus (simp [Act.eval]));
          (focus (simp [knotsL]));
          (focus (exact knots_news (HN.out.below (B := w.heap.size) (by (repeat (first | with_reducible exact Below.refl _ _ | with_reducible assumption | with_reducible refine Below.alloc ?_ (by first | (simp; done) | (simp; omega) | omega) _ | with_reducible refine Below.setCell ?_ (by first | (simp; done) | (simp; omega) | omega) _ | with_reducible refine Below.drew ?_ | with_reducible refine below_drewN ?_ _))) hb)));
          (focus (exact knots_one n k));
          (focus (unfold maxLen; omega));
          (focus omega);
          (focus (simp));
          (focus (simp));
          intro g cap w1 hown hgrow hat hlt;
          have hB : Hid (Below w.heap.size w w1) := (by (repeat (first | with_reducible exact Below.refl _ _ | with_reducible assumption | with_reducible refine Below.alloc ?_ (by first | (simp; done) | (simp; omega) | omega) _ | with_reducible refine Below.setCell ?_ (by first | (simp; done) | (simp; omega) | omega) _ | with_reducible refine Below.drew ?_ | with_reducible refine below_drewN ?_ _)) : Below w.heap.size w _).grown hgrow (by first | (simp; done) | (simp; omega) | omega) (fun q hq => by cases hq; show w.heap.size ≤ w.heap.size + 1 + 1; omega);
          have hKA := Lib.hid (own_knots2 (by simpa using hown) h0);
          have e0 := hgrow.cell (a := ⟨w.heap.size, 0, none⟩) (show _ = some (.slice (some ⟨b, off, none⟩) n c) by simp [go_sem]) (by simp [Value.ownBlock]; omega);
          have e1 := hgrow.cell (a := ⟨w.heap.size, 1, none⟩) (show _ = some (.int .i64 d) by simp [go_sem]) (by simp [Value.ownBlock]; omega);
          have r0 := hgrow.cell (a := ⟨w.heap.size + 1, 0, none⟩) (show _ = some (.slice none 0 0) by simp [go_sem]) (by simp [Value.ownBlock]);
          have r1 := hgrow.cell (a := ⟨w.heap.size + 1, 1, none⟩) (show _ = some (.int .i64 0) by simp [go_sem]) (by simp [Value.ownBlock]);
          have f0 := (World.frozen?_of_block (a := ⟨w.heap.size + 1, 0, none⟩) (hgrow.block (w.heap.size + 1) (by first | (simp; done) | (simp; omega) | omega) (by simp [Value.ownBlock]))).trans (show _ = false by simp [go_sem]);
          have f1 := (World.frozen?_of_block (a := ⟨w.heap.size + 1, 1, none⟩) (hgrow.block (w.heap.size + 1) (by first | (simp; done) | (simp; omega) | omega) (by simp [Value.ownBlock]))).trans (show _ = false by simp [go_sem]);
          rw [Nat.zero_add];
          have hG := Lib.hid (g_ge hown);
          clear hown hgrow hat hlt)))
  all_goals
    go_wp2_with fail
    have hg2 := hG.out
    have hw1 : w.heap.size ≤ w.heap.size + 1 := by omega
    have hw2 := hB.out
    refine bodyPost_ret (v := .agg #[.slice (some ⟨g, 0, none⟩) n cap, .int .i64 d]) (by simp [results, Try.results14, go_sem, r0, r1]) rfl ⟨_, _, rfl, fun _ => ⟨g, 0, rfl, kat_set (kat_set hKA.out (by show w.heap.size + 1 ≠ g; omega)) (by show w.heap.size + 1 ≠ g; omega)⟩, by (repeat (first | with_reducible exact Below.refl _ _ | with_reducible assumption | with_reducible refine Below.alloc ?_ (by first | (simp; done) | (simp; omega) | omega) _ | with_reducible refine Below.setCell ?_ (by first | (simp; done) | (simp; omega) | omega) _ | with_reducible refine Below.drew ?_ | with_reducible refine below_drewN ?_ _))⟩
theorem copyT_any (A : Option Addr) (n c : Nat) (d : Int) (k : Nat → Knot) (w : World) (hn : n ≤ 1000000) (h0 : A = none → n = 0 ∧ c = 0) (hk : KA w A n k) :
    Calls Try.prog 14 #[.agg #[.slice A n c, .int .i64 d]] w fun e w' => ∃ A' c', e = .returned (.agg #[.slice A' n c', .int .i64 d]) ∧ KA w' A' n k ∧ Below w.heap.size w w' := by
  rcases Nat.eq_zero_or_pos n with e | e
  · subst e
    exact (copyT_0 A c d w (fun q => (h0 q).2)).mono fun e w' ⟨A', c', he, hb⟩ => ⟨A', c', he, fun h => absurd h (Nat.lt_irrefl 0), hb⟩
  · obtain ⟨b, off, rfl, hk2⟩ := hk e
    exact copyT_some b off n c d k w e hn hk2
end Go.Proofs.Ytmhcmiajikffpaa
namespace Go.Proofs.Ytmhcmiajikffpaa
open Go.RowKit Go.Shelf Go.Sort
attribute [local go_sem] idx3_0 idx3_1 idx3_2 old1 fro1 old2 fro2 old3 fro3 old4 fro4 old5 fro5 old6 fro6 old7 fro7 old8 fro8 old9 fro9 old10 fro10 old11 fro11 old12 fro12
attribute [local go_sem] lcf0 scl0
set_option maxRecDepth 100000 in
set_option maxHeartbeats 800000 in
theorem copyT_own (b off n c : Nat) (d : Int) (k : Nat → Knot) (w : World) (h0 : 0 < n) (hn : n ≤ 4398046510976) (hk : KAt w b off n k) :
    Calls Try.prog 14 #[.agg #[.slice (some ⟨b, off, none⟩) n c, .int .i64 d]] w fun e w' => ∃ g c', e = .returned (.agg #[.slice (some ⟨g, 0, none⟩) n c', .int .i64 d]) ∧ KAt w' g 0 n k ∧ w.heap.size ≤ g ∧ g < w'.heap.size ∧ (∀ j, w'.frozen? ⟨g, j, none⟩ = false) ∧ Below w.heap.size w w' := by
  obtain ⟨i0, hi0, hzz⟩ := Option.map_eq_some_iff.1 infoKnot
  simp only [Prod.mk.injEq] at hzz
  obtain ⟨hz0, hz1, hz2⟩ := hzz
  have HN := Lib.hid hk
  clear hk
  go_enter Try.func14, Try.ntmps14
  go_wp2_with fail
  have hb := HN.out.1
  go_region_held3 (fun w' => w'.cell? ⟨w.heap.size, 0, none⟩ = some (.slice (some ⟨b, off, none⟩) n c) ∧ w'.cell? ⟨w.heap.size, 1, none⟩ = some (.int .i64 d)) (simp [go_sem, *])
    (first
      | (go_loud (
          refine step_append_lies (P := Try.prog) _ ?_ (.tmp 3) (.tmp 5) 22 ?_ (w.heap.size + 1 + 1) 107 i0 (.agg #[.int .i64 0, .int .i64 0, .int .i64 0, .int .i64 0]) 4 32 undKnots hi0 hz0 hz1 hz2 ?_ ?_ (.slice (some ⟨w.heap.size + 1 + 1, 0, none⟩) 0 0) 0 [] ?_ ?_ ⟨b, off, none⟩ n c (knotsL n k) ?_ ?_ ?_ ?_ h0 ?_ ?_ ?_ (w.heap.size + 1 + 1 + 1) ?_ ?_;
          (focus rfl);
          (focus rfl);
          (focus rfl);
          (focus decide);
          (focus (simp [Act.eval]));
          (focus (exact own_new _ _ (by simp)));
          (focus (simp [Act.eval]));
          (focus (simp [knotsL]));
          (focus (exact knots_news (HN.out.below (B := w.heap.size) (by (repeat (first | with_reducible exact Below.refl _ _ | with_reducible assumption | with_reducible refine Below.alloc ?_ (by first | (simp; done) | (simp; omega) | omega) _ | with_reducible refine Below.setCell ?_ (by first | (simp; done) | (simp; omega) | omega) _ | with_reducible refine Below.drew ?_ | with_reducible refine below_drewN ?_ _))) hb)));
          (focus (exact knots_one n k));
          (focus (unfold maxLen; omega));
          (focus omega);
          (focus (simp));
          (focus (simp));
          intro g cap w1 hown hgrow hat hlt;
          have hB : Hid (Below w.heap.size w w1) := (by (repeat (first | with_reducible exact Below.refl _ _ | with_reducible assumption | with_reducible refine Below.alloc ?_ (by first | (simp; done) | (simp; omega) | omega) _ | with_reducible refine Below.setCell ?_ (by first | (simp; done) | (simp; omega) | omega) _ | with_reducible refine Below.drew ?_ | with_reducible refine below_drewN ?_ _)) : Below w.heap.size w _).grown hgrow (by first | (simp; done) | (simp; omega) | omega) (fun q hq => by cases hq; show w.heap.size ≤ w.heap.size + 1 + 1; omega);
          have hKA := Lib.hid (own_knots2 (by simpa using hown) h0);
          have e0 := hgrow.cell (a := ⟨w.heap.size, 0, none⟩) (show _ = some (.slice (some ⟨b, off, none⟩) n c) by simp [go_sem]) (by simp [Value.ownBlock]; omega);
          have e1 := hgrow.cell (a := ⟨w.heap.size, 1, none⟩) (show _ = some (.int .i64 d) by simp [go_sem]) (by simp [Value.ownBlock]; omega);
          have r0 := hgrow.cell (a := ⟨w.heap.size + 1, 0, none⟩) (show _ = some (.slice none 0 0) by simp [go_sem]) (by simp [Value.ownBlock]);
          have r1 := hgrow.cell (a := ⟨w.heap.size + 1, 1, none⟩) (show _ = some (.int .i64 0) by simp [go_sem]) (by simp [Value.ownBlock]);
          have f0 := (World.frozen?_of_block (a := ⟨w.heap.size + 1, 0, none⟩) (hgrow.block (w.heap.size + 1) (by first | (simp; done) | (simp; omega) | omega) (by simp [Value.ownBlock]))).trans (show _ = false by simp [go_sem]);
          have f1 := (World.frozen?_of_block (a := ⟨w.heap.size + 1, 1, none⟩) (hgrow.block (w.heap.size + 1) (by first | (simp; done) | (simp; omega) | omega) (by simp [Value.ownBlock]))).trans (show _ = false by simp [go_sem]);
          rw [Nat.zero_add];
          have hG := Lib.hid (g_ge hown);
          have hF : Hid (∀ j, w1.frozen? ⟨g, j, none⟩ = false) := fun j => World.ownsRow.frozenAt hown j;
          have hT := Lib.hid hlt;
          clear hown hgrow hat hlt)))
  all_goals
    go_wp2_with fail
    have hg2 := hG.out
    have hw1 : w.heap.size ≤ w.heap.size + 1 := by omega
    have hw2 := hB.out
    refine bodyPost_ret (v := .agg #[.slice (some ⟨g, 0, none⟩) n cap, .int .i64 d]) (by simp [results, Try.results14, go_sem, r0, r1]) rfl ⟨g, cap, rfl, kat_set (kat_set hKA.out (by show w.heap.size + 1 ≠ g; omega)) (by show w.heap.size + 1 ≠ g; omega), by omega, by simpa [go_sem] using hT.out, fun j => by simpa [go_sem] using hF.out j, by (repeat (first | with_reducible exact Below.refl _ _ | with_reducible assumption | with_reducible refine Below.alloc ?_ (by first | (simp; done) | (simp; omega) | omega) _ | with_reducible refine Below.setCell ?_ (by first | (simp; done) | (simp; omega) | omega) _ | with_reducible refine Below.drew ?_ | with_reducible refine below_drewN ?_ _))⟩
end Go.Proofs.Ytmhcmiajikffpaa
namespace Go.Proofs.Ytmhcmiajikffpaa
open Go.RowKit Go.Shelf Go.Sort
attribute [local go_sem] idx3_0 idx3_1 idx3_2 old1 fro1 old2 fro2 old3 fro3 old4 fro4 old5 fro5 old6 fro6 old7 fro7 old8 fro8 old9 fro9 old10 fro10 old11 fro11 old12 fro12
def mixK (k : Nat → Knot) (x y z : Int) (j : Nat) : Nat → Knot := fun i => if i < j then shK k x y z i else k i
theorem mixK_0 (k : Nat → Knot) (x y z : Int) : mixK k x y z 0 = k := by funext i; simp [mixK]
theorem mixK_lt {k : Nat → Knot} {x y z : Int} {j i : Nat} (h : i < j) : mixK k x y z j i = shK k x y z i := by simp [mixK, h]
theorem mixK_ge {k : Nat → Knot} {x y z : Int} {j i : Nat} (h : j ≤ i) : mixK k x y z j i = k i := by simp [mixK]; omega
structure SH (w : World) (O g n c' : Nat) (x y z d : Int) (k : Nat → Knot) (W : World) : Prop where
  be : Below w.heap.size w W
  o0 : W.cell? ⟨O, 0, none⟩ = some (.slice (some ⟨g, 0, none⟩) n c')
  o1 : W.cell? ⟨O, 1, none⟩ = some (.int .i64 d)
  v0 : W.cell? ⟨w.heap.size + 1, 0, none⟩ = some (.int .i64 x)
  v1 : W.cell? ⟨w.heap.size + 1, 1, none⟩ = some (.int .i64 y)
  v2 : W.cell? ⟨w.heap.size + 1, 2, none⟩ = some (.int .i64 z)
  r0 : W.cell? ⟨w.heap.size + 1 + 1, 0, none⟩ = some (.slice none 0 0)
  r1 : W.cell? ⟨w.heap.size + 1 + 1, 1, none⟩ = some (.int .i64 0)
  f0 : W.frozen? ⟨w.heap.size + 1 + 1, 0, none⟩ = false
  f1 : W.frozen? ⟨w.heap.size + 1 + 1, 1, none⟩ = false
  fg : ∀ j, W.frozen? ⟨g, j, none⟩ = false
  kk : KAt W g 0 n k
theorem st_oth {w : World} {g p q : Nat} {v : Value} (h : p ≠ q) : (w.setCell ⟨g, p, none⟩ v).cell? ⟨g, q, none⟩ = w.cell? ⟨g, q, none⟩ := World.cell?_setCell_other _ _ _ _ (fun e => h (by injection e))
theorem SH.step {w : World} {O g n c' j : Nat} {x y z d : Int} {k : Nat → Knot} {W : World} (h : SH w O g n c' x y z d (mixK k x y z j) W) (hg : w.heap.size + 1 + 1 < g) (hO : g < O) (hj : j < n) (o : Obj) :
    SH w O g n c' x y z d (mixK k x y z (j + 1)) ((((W.alloc o).setCell ⟨g, j * 4 + 1, none⟩ (.int .i64 ((k j).x + x))).setCell ⟨g, j * 4 + 1 + 1, none⟩ (.int .i64 ((k j).y + y))).setCell ⟨g, j * 4 + 1 + 2, none⟩ (.int .i64 ((k j).z + z))) := by
  obtain ⟨be, o0, o1, v0, v1, v2, r0, r1, f0, f1, fg, kk⟩ := h
  have hgs : g < W.heap.size := kk.1
  have hb : Below W.heap.size W (W.alloc o) := (Below.refl _ _).alloc (Nat.le_refl _) o
  have far : ∀ (b q : Nat) (v : Value), g ≠ b → W.cell? ⟨b, q, none⟩ = some v → ((((W.alloc o).setCell ⟨g, j * 4 + 1, none⟩ (.int .i64 ((k j).x + x))).setCell ⟨g, j * 4 + 1 + 1, none⟩ (.int .i64 ((k j).y + y))).setCell ⟨g, j * 4 + 1 + 2, none⟩ (.int .i64 ((k j).z + z))).cell? ⟨b, q, none⟩ = some v := by
    intro b q v hne hc
    rw [World.cell?_setCell_far _ _ _ _ hne, World.cell?_setCell_far _ _ _ _ hne, World.cell?_setCell_far _ _ _ _ hne]
    exact keep hb hc
  have fro : ∀ (b q : Nat), b < W.heap.size → W.frozen? ⟨b, q, none⟩ = false → ((((W.alloc o).setCell ⟨g, j * 4 + 1, none⟩ (.int .i64 ((k j).x + x))).setCell ⟨g, j * 4 + 1 + 1, none⟩ (.int .i64 ((k j).y + y))).setCell ⟨g, j * 4 + 1 + 2, none⟩ (.int .i64 ((k j).z + z))).frozen? ⟨b, q, none⟩ = false := by
    intro b q hl hc
    rw [World.frozen?_setCell, World.frozen?_setCell, World.frozen?_setCell]
    exact (hb.frozen (p := ⟨b, q, none⟩) hl).trans hc
  have hw : w.heap.size ≤ g := by omega
  refine ⟨(((be.alloc be.size o).setCell hw _).setCell hw _).setCell hw _, far _ _ _ (by omega) o0, far _ _ _ (by omega) o1, far _ _ _ (by omega) v0, far _ _ _ (by omega) v1, far _ _ _ (by omega) v2, far _ _ _ (by omega) r0, far _ _ _ (by omega) r1, fro _ _ (lt_of r0) f0, fro _ _ (lt_of r1) f1, fun q => fro _ _ hgs (fg q), ?_, fun i hi => ?_⟩
  · have := hb.size
    simpa [World.setCell] using Nat.lt_of_lt_of_le hgs this
  obtain ⟨c0, c1, c2, c3⟩ := kk.2 i hi
  replace c0 := keep hb c0
  replace c1 := keep hb c1
  replace c2 := keep hb c2
  replace c3 := keep hb c3
  rw [Nat.zero_add] at c0 c1 c2 c3
  simp only [Nat.zero_add]
  by_cases e : i = j
  · subst e
    rw [mixK_lt (Nat.lt_succ_self i)]
    rw [mixK_ge (Nat.le_refl i)] at c0 c1 c2 c3
    refine ⟨?_, ?_, ?_, ?_⟩
    · rw [st_oth (by omega), st_oth (by omega), st_oth (by omega)]
      exact c0
    · rw [st_oth (by omega), st_oth (by omega)]
      exact World.cell?_setCell_same' _ _ _ (by rw [c1]; rfl)
    · rw [st_oth (by omega)]
      exact World.cell?_setCell_same' _ _ _ (by rw [st_oth (by omega), show i * 4 + 1 + 1 = i * 4 + 2 by omega, c2]; rfl)
    · exact World.cell?_setCell_same' _ _ _ (by rw [st_oth (by omega), st_oth (by omega), show i * 4 + 1 + 2 = i * 4 + 3 by omega, c3]; rfl)
  · have hm : mixK k x y z (j + 1) i = mixK k x y z j i := by unfold mixK; by_cases hl : i < j <;> simp [hl] <;> omega
    rw [hm]
    refine ⟨?_, ?_, ?_, ?_⟩
    · rw [st_oth (by omega), st_oth (by omega), st_oth (by omega)]; exact c0
    · rw [st_oth (by omega), st_oth (by omega), st_oth (by omega)]; exact c1
    · rw [st_oth (by omega), st_oth (by omega), st_oth (by omega)]; exact c2
    · rw [st_oth (by omega), st_oth (by omega), st_oth (by omega)]; exact c3
set_option maxRecDepth 100000 in
set_option maxHeartbeats 800000 in
theorem pathShifted_some (b off n c : Nat) (d0 x y z d : Int) (k : Nat → Knot) (w : World) (h0 : 0 < n) (hn : n ≤ 12) (hk : KAt w b off n k)
    (hv : ∀ i, i < n → (-1000000 ≤ (k i).x ∧ (k i).x ≤ 1000000) ∧ (-1000000 ≤ (k i).y ∧ (k i).y ≤ 1000000) ∧ (-1000000 ≤ (k i).z ∧ (k i).z ≤ 1000000))
    (hx : -1000 ≤ x ∧ x ≤ 1000) (hy : -1000 ≤ y ∧ y ≤ 1000) (hz : -1000 ≤ z ∧ z ≤ 1000) :
    Calls Try.prog 29 #[.agg #[.slice (some ⟨b, off, none⟩) n c, .int .i64 d0], .agg #[.int .i64 x, .int .i64 y, .int .i64 z], .int .i64 d] w fun e w' => ∃ g c', e = .returned (.agg #[.slice (some ⟨g, 0, none⟩) n c', .int .i64 d]) ∧ KAt w' g 0 n (shK k x y z) ∧ w.heap.size ≤ g ∧ Below w.heap.size w w' := by
  have HN := Lib.hid hk
  have hb := hk.1
  have HV := Lib.hid hv
  clear hk hv
  have HC : ∀ W, Below w.heap.size w W → Hid (Calls Try.prog 14 #[.agg #[.slice (some ⟨b, off, none⟩) n c, .int .i64 d0]] W fun e w' => ∃ g c', e = .returned (.agg #[.slice (some ⟨g, 0, none⟩) n c', .int .i64 d0]) ∧ KAt w' g 0 n k ∧ W.heap.size ≤ g ∧ g < w'.heap.size ∧ (∀ j, w'.frozen? ⟨g, j, none⟩ = false) ∧ Below W.heap.size W w') := fun W hB => copyT_own b off n c d0 k W h0 (by omega) (HN.out.below hB hb)
  go_enter Try.func29, Try.ntmps29
  go_wp2_with (go_at_call 14; (with_reducible refine Calls.mono (HC _ (by (repeat (first | with_reducible exact Below.refl _ _ | with_reducible assumption | with_reducible refine Below.alloc ?_ (by first | (simp; done) | (simp; omega) | omega) _ | with_reducible refine Below.setCell ?_ (by first | (simp; done) | (simp; omega) | omega) _ | with_reducible refine Below.drew ?_ | with_reducible refine below_drewN ?_ _)))).out ?_); rintro e w1 ⟨g, c', rfl, hK, hg, hg2, hF, hb1⟩)
  have hS : SH w w1.heap.size g n c' x y z d (mixK k x y z 0) (w1.alloc (.cells #[.slice (some ⟨g, 0, none⟩) n c', .int .i64 d] 24)) := by
    rw [mixK_0]
    have hz : w.heap.size + 1 + 1 < w1.heap.size := by have := hb1.size; simp at this; omega
    have hb2 : Below w1.heap.size w1 (w1.alloc (.cells #[.slice (some ⟨g, 0, none⟩) n c', .int .i64 d] 24)) := (Below.refl _ _).alloc (Nat.le_refl _) _
    have old : ∀ (b q : Nat) (v : Value), (((w.alloc (.cells #[.slice (some ⟨b, off, none⟩) n c, .int .i64 d0] 24))).heap.size) = (((w.alloc (.cells #[.slice (some ⟨b, off, none⟩) n c, .int .i64 d0] 24))).heap.size) := fun _ _ _ => rfl
    clear old
    refine ⟨?_, by simp [go_sem], by simp [go_sem], keep hb2 (keep hb1 ?_), keep hb2 (keep hb1 ?_), keep hb2 (keep hb1 ?_), keep hb2 (keep hb1 ?_), keep hb2 (keep hb1 ?_), ?_, ?_, fun q => (hb2.frozen (p := ⟨g, q, none⟩) hg2).trans (hF q), hK.below hb2 hg2⟩
    · exact (thenB (by (repeat (first | with_reducible exact Below.refl _ _ | with_reducible assumption | with_reducible refine Below.alloc ?_ (by first | (simp; done) | (simp; omega) | omega) _ | with_reducible refine Below.setCell ?_ (by first | (simp; done) | (simp; omega) | omega) _ | with_reducible refine Below.drew ?_ | with_reducible refine below_drewN ?_ _))) hb1).trans (hb2.mono (by omega))
    · simp [go_sem]
    · simp [go_sem]
    · simp [go_sem]
    · simp [go_sem]
    · simp [go_sem]
    · exact ((hb2.frozen (p := ⟨w.heap.size + 1 + 1, 0, none⟩) (by omega)).trans (hb1.frozen (p := ⟨w.heap.size + 1 + 1, 0, none⟩) (by simp))).trans (by simp [go_sem])
    · exact ((hb2.frozen (p := ⟨w.heap.size + 1 + 1, 1, none⟩) (by omega)).trans (hb1.frozen (p := ⟨w.heap.size + 1 + 1, 1, none⟩) (by simp))).trans (by simp [go_sem])
  have g1 : w.heap.size + 1 + 1 < g := by simp at hg; omega
  clear hK hF hg
  have HS := Lib.hid hS
  clear hS
  go_loopw [8] (fun i wr => ∃ j : Nat, j ≤ n ∧ i = .int .i64 j ∧ SH w w1.heap.size g n c' x y z d (mixK k x y z j) wr) (fun i _ => n - (intOf i).toNat)
  case atStart => exact ⟨0, Nat.zero_le _, rfl, HS.out⟩
  case round =>
    obtain ⟨j, hj, rfl, hI⟩ := hrel
    have HI := Lib.hid hI
    obtain ⟨be, o0, o1, v0, v1, v2, r0, r1, f0, f1, fg, kk⟩ := hI
    by_cases hlt : j < n
    · obtain ⟨k0, k1, k2, k3⟩ := kk.2 j hlt
      rw [mixK_ge (Nat.le_refl j)] at k0 k1 k2 k3
      obtain ⟨b1, b2, b3⟩ := HV.out j hlt
      rw [Nat.zero_add] at k0 k1 k2 k3
      have s1 : IntKind.i64.wrap ((k j).x + x) = (k j).x + x := IntWalk.i64_in _ (by omega)
      have s2 : IntKind.i64.wrap ((k j).y + y) = (k j).y + y := IntWalk.i64_in _ (by omega)
      have s3 : IntKind.i64.wrap ((k j).z + z) = (k j).z + z := IntWalk.i64_in _ (by omega)
      have q1 := fg (j * 4 + 1)
      have q2 := fg (j * 4 + 1 + 1)
      have q3 := fg (j * 4 + 1 + 1 + 1)
      clear kk be fg
      go_wp2_with fail
      go_roundw
      case rel => exact ⟨j + 1, by omega, by go_num, HI.out.step g1 hg2 hlt _⟩
      case measure => simp [intOf]; omega
    · have e : j = n := by omega
      subst e
      clear kk fg
      go_wp2_with fail
      have hm : ∀ i, i < j → mixK k x y z j i = shK k x y z i := fun i hi => mixK_lt hi
      have hKK := HI.out.kk
      have hBB := HI.out.be
      have hw1 : w.heap.size ≤ w.heap.size + 1 + 1 := by omega
      have hgg := hKK.1
      refine bodyPost_ret (v := .agg #[.slice (some ⟨g, 0, none⟩) j c', .int .i64 d]) (by simp [results, Try.results29, go_sem, r0, r1]) rfl ⟨g, c', rfl, kat_set (kat_set ⟨hKK.1, fun i hi => by have := hKK.2 i hi; rwa [hm i hi] at this⟩ (by show w.heap.size + 1 + 1 ≠ g; omega)) (by show w.heap.size + 1 + 1 ≠ g; omega), by omega, by (repeat (first | with_reducible exact Below.refl _ _ | with_reducible assumption | with_reducible refine Below.alloc ?_ (by first | (simp; done) | (simp; omega) | omega) _ | with_reducible refine Below.setCell ?_ (by first | (simp; done) | (simp; omega) | omega) _ | with_reducible refine Below.drew ?_ | with_reducible refine below_drewN ?_ _))⟩
end Go.Proofs.Ytmhcmiajikffpaa
