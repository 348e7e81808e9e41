/- Helpers: the copy of a track. -/
import Derived.Test.YtnfoagcpgegldaaGreatB19
import Derived.Test.YtnfoagcpgegldaaGreatB20
import Derived.Test.YtnfoagcpgegldaaGreatB15
import Derived.Deep.AppendLies
import Derived.Test.YtnfoagcpgegldaaGreatB29
import Derived.Test.YtnfoagcpgegldaaGreatB30
import Derived.Test.YtnfoagcpgegldaaGreatB27
import Derived.Test.YtnfoagcpgegldaaGreatB17
namespace Go.Proofs.YtnfoagcpgegldaaGreat
open Go.RowKit Go.Shelf Go.Sort
attribute [local go_sem] idx3_0 idx3_1 idx3_2 old1 fro1 old2 fro2 old3 fro3 old4 fro4 old5 fro5 old6 fro6 old7 fro7 old8 fro8 old9 fro9 old10 fro10 old11 fro11 old12 fro12
theorem infoKnot : (Tryz.prog.info? 116).map (fun i => (i.zero, i.size, i.bytes)) = some (some (.agg #[.int .i64 0, .int .i64 0, .int .i64 0, .int .i64 0]), 4, 32) := by kernel_rfl
theorem undKnots : Tryz.prog.underlying 22 = some (.slice 116) := by kernel_rfl
def fld (q : Knot) (r : Nat) : Value := if r = 0 then .int .i64 q.t else if r = 1 then .int .i64 q.x else if r = 2 then .int .i64 q.y else .int .i64 q.z
def knotsL (n : Nat) (k : Nat → Knot) : List Value := (List.range (n * 4)).map fun j => fld (k (j / 4)) (j % 4)
theorem knotsL_get {n : Nat} {k : Nat → Knot} {i r : Nat} (hi : i < n) (hr : r < 4) : (knotsL n k)[i * 4 + r]? = some (fld (k i) r) := by
  have h : i * 4 + r < n * 4 := by omega
  have e1 : (i * 4 + r) / 4 = i := by omega
  have e2 : (i * 4 + r) % 4 = r := by omega
  simp [knotsL, h, e1, e2]
theorem knots_news {w : World} {b off n : Nat} {k : Nat → Knot} (hk : KAt w b off n k) : ∀ j u, (knotsL n k)[j]? = some u → w.cell? ((⟨b, off, none⟩ : Addr).add j) = some u := by
  intro j u hu
  have hj : j < n * 4 := by
    have := (List.getElem?_eq_some_iff.1 hu).1
    simpa [knotsL] using this
  obtain ⟨i, r, hr, rfl⟩ : ∃ i r, r < 4 ∧ j = i * 4 + r := ⟨j / 4, j % 4, by omega, by omega⟩
  have hi : i < n := by omega
  rw [knotsL_get hi hr] at hu
  obtain ⟨c1, c2, c3, c4⟩ := hk.2 i hi
  rw [addr_add, ← hu]
  rcases (by omega : r = 0 ∨ r = 1 ∨ r = 2 ∨ r = 3) with rfl | rfl | rfl | rfl
  · exact c1
  · rw [show off + (i * 4 + 1) = off + i * 4 + 1 by omega]; exact c2
  · rw [show off + (i * 4 + 2) = off + i * 4 + 2 by omega]; exact c3
  · rw [show off + (i * 4 + 3) = off + i * 4 + 3 by omega]; exact c4
theorem own_knots {w : World} {base e n : Nat} {v : Value} {k : Nat → Knot} (h : w.ownsRow base e 4 v n (knotsL n k)) : v = .slice (sA v) n (sC v) ∧ KA w (sA v) n k := by
  obtain ⟨h1, h2⟩ := own_parts h
  refine ⟨h1, fun h0 => ?_⟩
  obtain ⟨h3, h4⟩ := h2 h0
  rw [h3] at h1
  rw [h1] at h
  have hc := fun i r (hi : i < n) (hr : r < 4) => h.cells (g := sG v) rfl (i * 4 + r) (fld (k i) r) (knotsL_get hi hr)
  refine ⟨sG v, 0, h3, lt_of (show w.cell? ⟨sG v, 0 + (0 * 4 + 0), none⟩ = some (fld (k 0) 0) from (by have := hc 0 0 h0 (by decide); rwa [addr_add] at this)), fun i hi => ⟨?_, ?_, ?_, ?_⟩⟩
  · have := hc i 0 hi (by decide); rw [addr_add] at this; exact this
  · have := hc i 1 hi (by decide); rw [addr_add] at this; rw [show 0 + i * 4 + 1 = 0 + (i * 4 + 1) by omega]; exact this
  · have := hc i 2 hi (by decide); rw [addr_add] at this; rw [show 0 + i * 4 + 2 = 0 + (i * 4 + 2) by omega]; exact this
  · have := hc i 3 hi (by decide); rw [addr_add] at this; rw [show 0 + i * 4 + 3 = 0 + (i * 4 + 3) by omega]; exact this
theorem fld_one (q : Knot) (r : Nat) : (fld q r).oneCell' = true := by
  unfold fld
  split
  · rfl
  · split
    · rfl
    · split <;> rfl
theorem lcf0 (a : Addr) (acc : Array Value) (w : World) : (loadCellsFrom a 0 0 acc).run Tryz.prog w = .ok acc w := rfl
theorem scl0 (a : Addr) (w : World) : (storeCells a []).run Tryz.prog w = .ok () w := rfl
attribute [local go_sem] lcf0 scl0
set_option maxRecDepth 100000 in
set_option maxHeartbeats 800000 in
theorem copyT_0 (A : Option Addr) (c : Nat) (d : Int) (w : World) (h0 : A = none → c = 0) :
    Calls Tryz.prog 14 #[.agg #[.slice A 0 c, .int .i64 d]] w fun e w' => ∃ A' c', e = .returned (.agg #[.slice A' 0 c', .int .i64 d]) ∧ Below w.heap.size w w' := by
  cases A with
  | none =>
    obtain rfl := h0 rfl
    go_enter Tryz.func14, Tryz.ntmps14
    go_wp2_with fail
    go_region_held3 (fun w' => w'.cell? ⟨w.heap.size, 0, none⟩ = some (.slice none 0 0) ∧ w'.cell? ⟨w.heap.size, 1, none⟩ = some (.int .i64 d)) (simp [go_sem, *]) (first | fail)
    all_goals
      go_wp2_with fail
      refine bodyPost_ret (v := .agg #[.slice (some ⟨w.heap.size + 1 + 1, 0, none⟩) 0 0, .int .i64 d]) (by simp [results, Tryz.results14, go_sem]) rfl ⟨_, _, rfl, by (repeat (first | with_reducible exact Below.refl _ _ | with_reducible assumption | with_reducible refine Below.alloc ?_ (by first | (simp; done) | (simp; omega) | omega) _ | with_reducible refine Below.setCell ?_ (by first | (simp; done) | (simp; omega) | omega) _ | with_reducible refine Below.drew ?_ | with_reducible refine below_drewN ?_ _))⟩
  | some a =>
    go_enter Tryz.func14, Tryz.ntmps14
    go_wp2_with fail
    go_region_held3 (fun w' => w'.cell? ⟨w.heap.size, 0, none⟩ = some (.slice (some a) 0 c) ∧ w'.cell? ⟨w.heap.size, 1, none⟩ = some (.int .i64 d)) (simp [go_sem, *]) (first | fail)
    all_goals
      go_wp2_with fail
      refine bodyPost_ret (v := .agg #[.slice (some ⟨w.heap.size + 1 + 1, 0, none⟩) 0 0, .int .i64 d]) (by simp [results, Tryz.results14, go_sem]) rfl ⟨_, _, rfl, by (repeat (first | with_reducible exact Below.refl _ _ | with_reducible assumption | with_reducible refine Below.alloc ?_ (by first | (simp; done) | (simp; omega) | omega) _ | with_reducible refine Below.setCell ?_ (by first | (simp; done) | (simp; omega) | omega) _ | with_reducible refine Below.drew ?_ | with_reducible refine below_drewN ?_ _))⟩
theorem own_new {e : TypeId} {sz : Nat} (W : World) (B : Nat) (h : W.heap.size = B) : ((W.alloc (.cells #[] e)).drew).ownsRow B e sz (.slice (some ⟨B, 0, none⟩) 0 0) 0 [] := by
  subst h
  exact World.ownsRow.drew (World.ownsRow_made W #[] 0 (Nat.le_refl _) (by unfold maxLen; omega) (by simp))
theorem knots_one (n : Nat) (k : Nat → Knot) : ∀ u ∈ knotsL n k, u.oneCell' = true := by
  intro u hu
  obtain ⟨j, _, rfl⟩ := List.mem_map.1 hu
  exact fld_one _ _
theorem own_knots2 {w : World} {base e n g cap : Nat} {k : Nat → Knot} (h : w.ownsRow base e 4 (.slice (some ⟨g, 0, none⟩) n cap) n (knotsL n k)) (h0 : 0 < n) : KAt w g 0 n k := by
  obtain ⟨_, h2⟩ := own_knots h
  obtain ⟨b, off, e1, e2⟩ := h2 h0
  have e3 : sA (.slice (some ⟨g, 0, none⟩) n cap) = some ⟨g, 0, none⟩ := rfl
  rw [e3] at e1
  cases e1
  exact e2
theorem g_ge {w : World} {base e sz m n g cap : Nat} {xs : List Value} (h : w.ownsRow base e sz (.slice (some ⟨g, 0, none⟩) m cap) n xs) : base ≤ g := (h.lt g rfl).1
theorem kat_set {w : World} {b off n : Nat} {k : Nat → Knot} {a : Addr} {v : Value} (h : KAt w b off n k) (ha : a.block ≠ b) : KAt (w.setCell a v) b off n k := by
  have hn : ∀ o, a ≠ ⟨b, o, none⟩ := fun o e => ha (by rw [e])
  refine ⟨by simpa [World.setCell] using h.1, fun i hi => ?_⟩
  obtain ⟨c1, c2, c3, c4⟩ := h.2 i hi
  exact ⟨(World.cell?_setCell_other w a _ v (hn _)).trans c1, (World.cell?_setCell_other w a _ v (hn _)).trans c2, (World.cell?_setCell_other w a _ v (hn _)).trans c3, (World.cell?_setCell_other w a _ v (hn _)).trans c4⟩
set_option maxRecDepth 100000 in
set_option maxHeartbeats 800000 in
theorem copyT_some (b off n c : Nat) (d : Int) (k : Nat → Knot) (w : World) (h0 : 0 < n) (hn : n ≤ 1000000) (hk : KAt w b off n k) :
    Calls Tryz.prog 14 #[.agg #[.slice (some ⟨b, off, none⟩) n c, .int .i64 d]] w fun e w' => ∃ A' c', e = .returned (.agg #[.slice A' n c', .int .i64 d]) ∧ KA w' A' n k ∧ Below w.heap.size w w' := by
  obtain ⟨i0, hi0, hzz⟩ := Option.map_eq_some_iff.1 infoKnot
  simp only [Prod.mk.injEq] at hzz
  obtain ⟨hz0, hz1, hz2⟩ := hzz
  have HN := Lib.hid hk
  clear hk
  go_enter Tryz.func14, Tryz.ntmps14
  go_wp2_with fail
  have hb := HN.out.1
  go_region_held3 (fun w' => w'.cell? ⟨w.heap.size, 0, none⟩ = some (.slice (some ⟨b, off, none⟩) n c) ∧ w'.cell? ⟨w.heap.size, 1, none⟩ = some (.int .i64 d)) (simp [go_sem, *])
    (first
      | (go_loud (
          refine step_append_lies (P := Tryz.prog) _ ?_ (.tmp 3) (.tmp 5) 22 ?_ (w.heap.size + 1 + 1) 116 i0 (.agg #[.int .i64 0, .int .i64 0, .int .i64 0, .int .i64 0]) 4 32 undKnots hi0 hz0 hz1 hz2 ?_ ?_ (.slice (some ⟨w.heap.size + 1 + 1, 0, none⟩) 0 0) 0 [] ?_ ?_ ⟨b, off, none⟩ n c (knotsL n k) ?_ ?_ ?_ ?_ h0 ?_ ?_ ?_ (w.heap.size + 1 + 1 + 1) ?_ ?_;
          (focus rfl);
          (focus rfl);
          (focus rfl);
          (focus decide);
          (focus (simp [Act.eval]));
          (focus (exact own_new _ _ (by simp)));
          (focus (simp [Act.eval]));
          (focus (simp [knotsL]));
          (focus (exact knots_news (HN.out.below (B := w.heap.size) (by (repeat (first | with_reducible exact Below.refl _ _ | with_reducible assumption | with_reducible refine Below.alloc ?_ (by first | (simp; done) | (simp; omega) | omega) _ | with_reducible refine Below.setCell ?_ (by first | (simp; done) | (simp; omega) | omega) _ | with_reducible refine Below.drew ?_ | with_reducible refine below_drewN ?_ _))) hb)));
          (focus (exact knots_one n k));
          (focus (unfold maxLen; omega));
          (focus omega);
          (focus (simp));
          (focus (simp));
          intro g cap w1 hown hgrow hat hlt;
          have hB : Hid (Below w.heap.size w w1) := (by (repeat (first | with_reducible exact Below.refl _ _ | with_reducible assumption | with_reducible refine Below.alloc ?_ (by first | (simp; done) | (simp; omega) | omega) _ | with_reducible refine Below.setCell ?_ (by first | (simp; done) | (simp; omega) | omega) _ | with_reducible refine Below.drew ?_ | with_reducible refine below_drewN ?_ _)) : Below w.heap.size w _).grown hgrow (by first | (simp; done) | (simp; omega) | omega) (fun q hq => by cases hq; show w.heap.size ≤ w.heap.size + 1 + 1; omega);
          have hKA := Lib.hid (own_knots2 (by simpa using hown) h0);
          have e0 := hgrow.cell (a := ⟨w.heap.size, 0, none⟩) (show _ = some (.slice (some ⟨b, off, none⟩) n c) by simp [go_sem]) (by simp [Value.ownBlock]; omega);
          have e1 := hgrow.cell (a := ⟨w.heap.size, 1, none⟩) (show _ = some (.int .i64 d) by simp [go_sem]) (by simp [Value.ownBlock]; omega);
          have r0 := hgrow.cell (a := ⟨w.heap.size + 1, 0, none⟩) (show _ = some (.slice none 0 0) by simp [go_sem]) (by simp [Value.ownBlock]);
          have r1 := hgrow.cell (a := ⟨w.heap.size + 1, 1, none⟩) (show _ = some (.int .i64 0) by simp [go_sem]) (by simp [Value.ownBlock]);
          have f0 := (World.frozen?_of_block (a := ⟨w.heap.size + 1, 0, none⟩) (hgrow.block (w.heap.size + 1) (by first | (simp; done) | (simp; omega) | omega) (by simp [Value.ownBlock]))).trans (show _ = false by simp [go_sem]);
          have f1 := (World.frozen?_of_block (a := ⟨w.heap.size + 1, 1, none⟩) (hgrow.block (w.heap.size + 1) (by first | (simp; done) | (simp; omega) | omega) (by simp [Value.ownBlock]))).trans (show _ = false by simp [go_sem]);
          rw [Nat.zero_add];
          have hG := Lib.hid (g_ge hown);
          clear hown hgrow hat hlt)))
  all_goals
    go_wp2_with fail
    have hg2 := hG.out
    have hw1 : w.heap.size ≤ w.heap.size + 1 := by omega
    have hw2 := hB.out
    refine bodyPost_ret (v := .agg #[.slice (some ⟨g, 0, none⟩) n cap, .int .i64 d]) (by simp [results, Tryz.results14, go_sem, r0, r1]) rfl ⟨_, _, rfl, fun _ => ⟨g, 0, rfl, kat_set (kat_set hKA.out (by show w.heap.size + 1 ≠ g; omega)) (by show w.heap.size + 1 ≠ g; omega)⟩, by (repeat (first | with_reducible exact Below.refl _ _ | with_reducible assumption | with_reducible refine Below.alloc ?_ (by first | (simp; done) | (simp; omega) | omega) _ | with_reducible refine Below.setCell ?_ (by first | (simp; done) | (simp; omega) | omega) _ | with_reducible refine Below.drew ?_ | with_reducible refine below_drewN ?_ _))⟩
theorem copyT_any (A : Option Addr) (n c : Nat) (d : Int) (k : Nat → Knot) (w : World) (hn : n ≤ 1000000) (h0 : A = none → n = 0 ∧ c = 0) (hk : KA w A n k) :
    Calls Tryz.prog 14 #[.agg #[.slice A n c, .int .i64 d]] w fun e w' => ∃ A' c', e = .returned (.agg #[.slice A' n c', .int .i64 d]) ∧ KA w' A' n k ∧ Below w.heap.size w w' := by
  rcases Nat.eq_zero_or_pos n with e | e
  · subst e
    exact (copyT_0 A c d w (fun q => (h0 q).2)).mono fun e w' ⟨A', c', he, hb⟩ => ⟨A', c', he, fun h => absurd h (Nat.lt_irrefl 0), hb⟩
  · obtain ⟨b, off, rfl, hk2⟩ := hk e
    exact copyT_some b off n c d k w e hn hk2
end Go.Proofs.YtnfoagcpgegldaaGreat
namespace Go.Proofs.YtnfoagcpgegldaaGreat
open Go.RowKit Go.Shelf Go.Sort
attribute [local go_sem] idx3_0 idx3_1 idx3_2 old1 fro1 old2 fro2 old3 fro3 old4 fro4 old5 fro5 old6 fro6 old7 fro7 old8 fro8 old9 fro9 old10 fro10 old11 fro11 old12 fro12
theorem VT.tin {W : World} {A : Trk} {s : Int} (h : VT W A s) : TIn A s := h.2
theorem rrcv_facts {W : World} {A B : Trk} {s : Int} (hA : VT W A s) (hB : VT W B s) :
    (0 < B.n ∧ B.n ≤ 100) ∧ 0 ≤ s ∧ s ≤ lastT B ∧ lastT B ≤ 1000000000000 ∧ (∀ W', Below W.heap.size W W' → W'.cell? ⟨B.b, B.off + (B.n - 1) * 4, none⟩ = some (.int .i64 (lastT B))) ∧
    ∀ W' r, Below W.heap.size W W' → s ≤ r → r ≤ lastT B → VT W' A s ∧ VT W' B r ∧ r - s ≤ 20000000000 := by
  have tB : TIn B s := hB.2
  have tL := tB.to tB.last (Int.le_refl _)
  have l1 := time_bd hA.2
  have l2 := time_bd tL
  refine ⟨⟨hB.1.1, hB.1.2.1⟩, l1.1, tB.last, l2.2, fun W' hb => ((hB.1.below hb).2.2.2 (B.n - 1) (by have := hB.1.1; omega)).1, fun W' r hb h1 h2 => ⟨hA.below hb, ⟨hB.1.below hb, tB.to h1 h2⟩, ?_⟩⟩
  have := span_t hB.2.1 hB.2.2 (tB.to h1 h2).2
  omega
theorem rrcv_no (A B : Trk) (s : Int) (W : World) (hA : VT W A s) (hB : VT W B s) (h : arrB A B s (lastT B) = false) :
    Calls Tryz.prog 22 #[.agg #[.slice (some ⟨A.b, A.off, none⟩) A.n A.c, .int .i64 A.d], .agg #[.slice (some ⟨B.b, B.off, none⟩) B.n B.c, .int .i64 B.d], .int .i64 s] W fun e w' => e = .returned (.tuple #[.agg #[.int .i64 0, .int .i64 0], .bool false]) ∧ Below W.heap.size W w' := by
  obtain ⟨⟨n1, n2⟩, s0, sT, T1, hL, hV⟩ := rrcv_facts hA hB
  exact rrec_no A.b A.off A.n A.c B.b B.off B.n B.c A.d B.d s (lastT B) W n1 n2 hL (fun W' hb => by
    obtain ⟨v1, v2, v3⟩ := hV W' (lastT B) hb sT (Int.le_refl _)
    have := rarrived_any W' A B s (lastT B) v1 v2 sT v3
    rw [h] at this
    exact this)
theorem rrcv_yes (A B : Trk) (s : Int) (W : World) (hA : VT W A s) (hB : VT W B s) (h : arrB A B s (lastT B) = true) :
    Calls Tryz.prog 22 #[.agg #[.slice (some ⟨A.b, A.off, none⟩) A.n A.c, .int .i64 A.d], .agg #[.slice (some ⟨B.b, B.off, none⟩) B.n B.c, .int .i64 B.d], .int .i64 s] W fun e w' => e = .returned (.tuple #[.agg #[.int .i64 (rcLo A B s), .int .i64 (rcHi A B s)], .bool true]) ∧ Below W.heap.size W w' := by
  obtain ⟨⟨n1, n2⟩, s0, sT, T1, hL, hV⟩ := rrcv_facts hA hB
  have hl := rc_some hB.tin h
  exact rrec_yes A.b A.off A.n A.c B.b B.off B.n B.c A.d B.d s (lastT B) (arrB A B s) (awayB A B s) (rcLo A B s) (rcHi A B s) W n1 n2 s0 sT T1 hL h
    (fun W' r hb h1 h2 => by
      obtain ⟨v1, v2, v3⟩ := hV W' r hb h1 h2
      exact rarrived_any W' A B s r v1 v2 h1 v3)
    (fun W' r hb h1 h2 => by
      obtain ⟨v1, v2, v3⟩ := hV W' r hb h1 h2
      exact raway_any W' A B s r v1 v2 h1 v3)
    (fun x h1 h2 h3 h4 => hi_same hA.tin hB.tin ⟨h1, by omega, h3, .inr h4⟩)
    (fun x h1 h2 h3 h4 => lo_same hA.tin hB.tin hl h1 h2 h3 h4)
def Trk.tv (A : Trk) : TV := ⟨some ⟨A.b, A.off, none⟩, A.n, A.c, A.k, A.d⟩
theorem rv_1 {A B : TV} {s : Int} (eA : A.err = 0) (eB : B.err = 0) (h : timesErr A B s ≠ 0) : rvE A B s = timesErr A B s ∧ rvE A B s ≠ 0 := by
  have hd : distErr A B s = timesErr A B s := by unfold distErr bothErr; rw [if_pos eA, if_pos eB]
  have : rvE A B s = timesErr A B s := by unfold rvE; rw [hd, if_neg h]
  exact ⟨this, by rw [this]; exact h⟩
theorem rv_0 {A B : TV} {s : Int} (eA : A.err = 0) (eB : B.err = 0) (h : timesErr A B s = 0) : distErr A B s = 0 := by
  unfold distErr bothErr; rw [if_pos eA, if_pos eB]; exact h
theorem rv_2 {A B : TV} {s : Int} (hd : distErr A B s = 0) (h : arrB A.t B.t s (lastT B.t) = false) : rvE A B s = 12 := by
  obtain ⟨tA, tB⟩ := distErr_in hd
  unfold rvE
  rw [if_pos hd, if_pos (rc_none tA tB h)]
theorem rv_3 {A B : TV} {s : Int} (hd : distErr A B s = 0) (h : arrB A.t B.t s (lastT B.t) = true) : rvE A B s = 0 ∧ rvLo A B s = rcLo A.t B.t s ∧ rvHi A B s = rcHi A.t B.t s := by
  obtain ⟨tA, tB⟩ := distErr_in hd
  have := rc_some tB h
  have e : rvE A B s = 0 := by
    unfold rvE
    rw [if_pos hd, if_neg (by omega)]
  exact ⟨e, by unfold rvLo; rw [if_pos e], by unfold rvHi; rw [if_pos e]⟩
theorem times_0 {A B : Trk} {s : Int} (h : timesErr A.tv B.tv s = 0) : outside s A.k A.n = false ∧ outside s B.k B.n = false := by
  unfold timesErr at h
  change (if outside s A.k A.n || outside s B.k B.n then (2 : Int) else 0) = 0 at h
  cases h1 : outside s A.k A.n <;> cases h2 : outside s B.k B.n <;> rw [h1, h2] at h <;> first | exact ⟨rfl, rfl⟩ | (exact absurd h (by decide))
/-- The document's RoundTrip, by its numbers. -/
theorem rroundTrip_n (A B : Trk) (s : Int) (W : World) (hA : A.At W) (hB : B.At W) (eA : ctErr A.k A.n A.d = 0) (eB : ctErr B.k B.n B.d = 0) :
    Calls Tryz.prog 32 #[.agg #[.slice (some ⟨A.b, A.off, none⟩) A.n A.c, .int .i64 A.d], .agg #[.slice (some ⟨B.b, B.off, none⟩) B.n B.c, .int .i64 B.d], .int .i64 s] W fun e w' => e = .returned (.tuple #[.agg #[.int .i64 (tripLo A.tv B.tv s), .int .i64 (tripHi A.tv B.tv s)], .int .i64 (tripE A.tv B.tv s)]) ∧ Below W.heap.size W w' := by
  have t1 := fun W' (hb : Below W.heap.size W W') => timesErr_any A.b A.off B.b B.off A.n A.c B.n B.c A.d B.d s A.k B.k W' hA.1 hA.2.1 hB.1 hB.2.1 (hA.below hb).2.2 (hB.below hb).2.2
  have t2 := fun (r : Int) W' (hb : Below W.heap.size W W') => timesErr_any B.b B.off A.b A.off B.n B.c A.n A.c B.d A.d r B.k A.k W' hB.1 hB.2.1 hA.1 hA.2.1 (hB.below hb).2.2 (hA.below hb).2.2
  change ∀ W', _ → Calls _ _ _ _ (fun e w' => e = .returned (.int .i64 (timesErr A.tv B.tv s)) ∧ _) at t1
  change ∀ (r : Int) W', _ → Calls _ _ _ _ (fun e w' => e = .returned (.int .i64 (timesErr B.tv A.tv r)) ∧ _) at t2
  have eA' : A.tv.err = 0 := eA
  have eB' : B.tv.err = 0 := eB
  by_cases z1 : timesErr A.tv B.tv s = 0
  · rw [z1] at t1
    have d1 := rv_0 eA' eB' z1
    obtain ⟨oA, oB⟩ := times_0 z1
    have vA := fun W' (hb : Below W.heap.size W W') => (⟨hA.below hb, eA, oA⟩ : VT W' A s)
    have vB := fun W' (hb : Below W.heap.size W W') => (⟨hB.below hb, eB, oB⟩ : VT W' B s)
    cases q1 : arrB A B s (lastT B)
    · have e1 := rv_2 d1 q1
      have et : tripE A.tv B.tv s = 12 := by unfold tripE; rw [e1, if_neg (by decide)]
      unfold tripLo tripHi
      rw [et, if_neg (by decide), if_neg (by decide)]
      exact rtrip_2 _ _ _ _ _ _ _ _ _ _ s 0 0 0 0 0 0 W t1 (fun W' hb => rrcv_no A B s W' (vA W' hb) (vB W' hb) q1)
    · obtain ⟨e1, e2, e3⟩ := rv_3 d1 q1
      have h1 := fun W' (hb : Below W.heap.size W W') => rrcv_yes A B s W' (vA W' hb) (vB W' hb) q1
      change rvLo A.tv B.tv s = rcLo A B s at e2
      change rvHi A.tv B.tv s = rcHi A B s at e3
      rw [← e2, ← e3] at h1
      have t2a := t2 (rvLo A.tv B.tv s)
      have t2b := t2 (rvHi A.tv B.tv s)
      generalize eL : rvLo A.tv B.tv s = l at h1 t2a e2
      generalize eU : rvHi A.tv B.tv s = u at h1 t2b e3
      clear e2 e3
      by_cases z2 : timesErr B.tv A.tv l = 0
      · rw [z2] at t2a
        have d2 := rv_0 eB' eA' z2
        obtain ⟨o1, o2⟩ := times_0 z2
        have v1 := fun W' (hb : Below W.heap.size W W') => (⟨hB.below hb, eB, o1⟩ : VT W' B l)
        have v2 := fun W' (hb : Below W.heap.size W W') => (⟨hA.below hb, eA, o2⟩ : VT W' A l)
        cases q2 : arrB B A l (lastT A)
        · have f1 := rv_2 d2 q2
          have et : tripE A.tv B.tv s = 12 := by unfold tripE; rw [if_pos e1, eL, if_neg (by rw [f1]; decide), f1]
          unfold tripLo tripHi
          rw [et, if_neg (by decide), if_neg (by decide)]
          exact rtrip_4 _ _ _ _ _ _ _ _ _ _ s l u 0 0 0 0 W t1 h1 t2a (fun W' hb => rrcv_no B A l W' (v1 W' hb) (v2 W' hb) q2)
        · obtain ⟨f1, f2, f3⟩ := rv_3 d2 q2
          have h2 := fun W' (hb : Below W.heap.size W W') => rrcv_yes B A l W' (v1 W' hb) (v2 W' hb) q2
          change rvLo B.tv A.tv l = rcLo B A l at f2
          rw [← f2] at h2
          by_cases z3 : timesErr B.tv A.tv u = 0
          · rw [z3] at t2b
            have d3 := rv_0 eB' eA' z3
            obtain ⟨o3, o4⟩ := times_0 z3
            have v3 := fun W' (hb : Below W.heap.size W W') => (⟨hB.below hb, eB, o3⟩ : VT W' B u)
            have v4 := fun W' (hb : Below W.heap.size W W') => (⟨hA.below hb, eA, o4⟩ : VT W' A u)
            cases q3 : arrB B A u (lastT A)
            · have g1 := rv_2 d3 q3
              have et : tripE A.tv B.tv s = 12 := by unfold tripE; rw [if_pos e1, eL, if_pos f1, eU, g1]
              unfold tripLo tripHi
              rw [et, if_neg (by decide), if_neg (by decide)]
              exact rtrip_6 _ _ _ _ _ _ _ _ _ _ s l u _ _ 0 0 W t1 h1 t2a h2 t2b (fun W' hb => rrcv_no B A u W' (v3 W' hb) (v4 W' hb) q3)
            · obtain ⟨g1, g2, g3⟩ := rv_3 d3 q3
              have h3 := fun W' (hb : Below W.heap.size W W') => rrcv_yes B A u W' (v3 W' hb) (v4 W' hb) q3
              change rvHi B.tv A.tv u = rcHi B A u at g3
              rw [← g3] at h3
              have et : tripE A.tv B.tv s = 0 := by unfold tripE; rw [if_pos e1, eL, if_pos f1, eU, g1]
              have el : tripLo A.tv B.tv s = rvLo B.tv A.tv l := by unfold tripLo; rw [if_pos et, eL]
              have eu : tripHi A.tv B.tv s = rvHi B.tv A.tv u := by unfold tripHi; rw [if_pos et, eU]
              rw [et, el, eu]
              exact rtrip_7 _ _ _ _ _ _ _ _ _ _ s l u _ _ _ _ W t1 h1 t2a h2 t2b h3
          · obtain ⟨g1, g2⟩ := rv_1 eB' eA' z3
            have et : tripE A.tv B.tv s = (timesErr B.tv A.tv u) := by unfold tripE; rw [if_pos e1, eL, if_pos f1, eU, g1]
            unfold tripLo tripHi
            rw [et, if_neg z3, if_neg z3]
            exact rtrip_5 _ _ _ _ _ _ _ _ _ _ s _ l u _ _ 0 0 W t1 h1 t2a h2 t2b (by simpa using z3)
      · obtain ⟨f1, f2⟩ := rv_1 eB' eA' z2
        have et : tripE A.tv B.tv s = (timesErr B.tv A.tv l) := by unfold tripE; rw [if_pos e1, eL, if_neg f2, f1]
        unfold tripLo tripHi
        rw [et, if_neg z2, if_neg z2]
        exact rtrip_3 _ _ _ _ _ _ _ _ _ _ s _ l u 0 0 0 0 W t1 h1 t2a (by simpa using z2)
  · obtain ⟨e1, e2⟩ := rv_1 eA' eB' z1
    have et : tripE A.tv B.tv s = timesErr A.tv B.tv s := by unfold tripE; rw [if_neg e2, e1]
    unfold tripLo tripHi
    rw [et, if_neg z1, if_neg z1]
    exact rtrip_1 _ _ _ _ _ _ _ _ _ _ s _ 0 0 0 0 0 0 W t1 (by simpa using z1)
end Go.Proofs.YtnfoagcpgegldaaGreat
