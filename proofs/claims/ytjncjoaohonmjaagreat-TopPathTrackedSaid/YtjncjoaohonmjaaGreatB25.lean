/- Helpers: the quarter of a direction in a plane. No condition but the bounds that the theorem names. -/
import Derived.Test.YtjncjoaohonmjaaGreatB24
import Derived.Test.YtjncjoaohonmjaaGreatB19
import Derived.Test.YtjncjoaohonmjaaGreatB01
import Derived.Test.YtjncjoaohonmjaaGreatB21
import Derived.Laws.OwnMore
namespace Go.Proofs.YtjncjoaohonmjaaGreat
open Go.RowKit Go.Shelf Go.Sort
attribute [local go_sem] idx3_0 idx3_1 idx3_2 old1 fro1 old2 fro2 old3 fro3 old4 fro4 old5 fro5 old6 fro6 old7 fro7 old8 fro8 old9 fro9 old10 fro10 old11 fro11 old12 fro12
set_option maxRecDepth 100000 in
set_option maxHeartbeats 800000 in
theorem quarter_any (x y : Int) (x1 : -9223372036854775807 ≤ x) (x2 : x ≤ 9223372036854775807) (y1 : -9223372036854775807 ≤ y) (y2 : y ≤ 9223372036854775807) (w : World) :
    Calls Tryz.prog 12 #[.int .i64 x, .int .i64 y] w fun e w' => e = .returned (.int .i64 (quad x y)) ∧ Below w.heap.size w w' := by
  unfold quad
  by_cases h : siz y ≤ siz x
  · rw [if_pos h]
    by_cases g : 0 ≤ x
    · rw [if_pos g]
      go_enter Tryz.func12, Tryz.ntmps12
      go_wp2_with (first
        | (go_at_call 38; (with_reducible refine Calls.mono (bsize_any x x1 x2 _) ?_); rintro e w1 ⟨rfl, rfl⟩)
        | (go_at_call 38; (with_reducible refine Calls.mono (bsize_any y y1 y2 _) ?_); rintro e w1 ⟨rfl, rfl⟩))
      go_ret
      exact ⟨rfl, by (repeat (first | with_reducible exact Below.refl _ _ | with_reducible assumption | with_reducible refine Below.alloc ?_ (by first | (simp; done) | (simp; omega) | omega) _ | with_reducible refine Below.setCell ?_ (by first | (simp; done) | (simp; omega) | omega) _ | with_reducible refine Below.drew ?_ | with_reducible refine below_drewN ?_ _))⟩
    · rw [if_neg g]
      go_enter Tryz.func12, Tryz.ntmps12
      go_wp2_with (first
        | (go_at_call 38; (with_reducible refine Calls.mono (bsize_any x x1 x2 _) ?_); rintro e w1 ⟨rfl, rfl⟩)
        | (go_at_call 38; (with_reducible refine Calls.mono (bsize_any y y1 y2 _) ?_); rintro e w1 ⟨rfl, rfl⟩))
      go_ret
      exact ⟨rfl, by (repeat (first | with_reducible exact Below.refl _ _ | with_reducible assumption | with_reducible refine Below.alloc ?_ (by first | (simp; done) | (simp; omega) | omega) _ | with_reducible refine Below.setCell ?_ (by first | (simp; done) | (simp; omega) | omega) _ | with_reducible refine Below.drew ?_ | with_reducible refine below_drewN ?_ _))⟩
  · rw [if_neg h]
    by_cases g : 0 < y
    · rw [if_pos g]
      go_enter Tryz.func12, Tryz.ntmps12
      go_wp2_with (first
        | (go_at_call 38; (with_reducible refine Calls.mono (bsize_any x x1 x2 _) ?_); rintro e w1 ⟨rfl, rfl⟩)
        | (go_at_call 38; (with_reducible refine Calls.mono (bsize_any y y1 y2 _) ?_); rintro e w1 ⟨rfl, rfl⟩))
      go_ret
      exact ⟨rfl, by (repeat (first | with_reducible exact Below.refl _ _ | with_reducible assumption | with_reducible refine Below.alloc ?_ (by first | (simp; done) | (simp; omega) | omega) _ | with_reducible refine Below.setCell ?_ (by first | (simp; done) | (simp; omega) | omega) _ | with_reducible refine Below.drew ?_ | with_reducible refine below_drewN ?_ _))⟩
    · rw [if_neg g]
      go_enter Tryz.func12, Tryz.ntmps12
      go_wp2_with (first
        | (go_at_call 38; (with_reducible refine Calls.mono (bsize_any x x1 x2 _) ?_); rintro e w1 ⟨rfl, rfl⟩)
        | (go_at_call 38; (with_reducible refine Calls.mono (bsize_any y y1 y2 _) ?_); rintro e w1 ⟨rfl, rfl⟩))
      go_ret
      exact ⟨rfl, by (repeat (first | with_reducible exact Below.refl _ _ | with_reducible assumption | with_reducible refine Below.alloc ?_ (by first | (simp; done) | (simp; omega) | omega) _ | with_reducible refine Below.setCell ?_ (by first | (simp; done) | (simp; omega) | omega) _ | with_reducible refine Below.drew ?_ | with_reducible refine below_drewN ?_ _))⟩
end Go.Proofs.YtjncjoaohonmjaaGreat
namespace Go.Proofs.YtjncjoaohonmjaaGreat
open Go.RowKit Go.Shelf Go.Sort
attribute [local go_sem] idx3_0 idx3_1 idx3_2 old1 fro1 old2 fro2 old3 fro3 old4 fro4 old5 fro5 old6 fro6 old7 fro7 old8 fro8 old9 fro9 old10 fro10 old11 fro11 old12 fro12
theorem infoCone : (Tryz.prog.info? 105).map (fun i => (i.zero, i.size, i.bytes)) = some (some (.agg #[.int .i64 0, .int .i64 0, .int .i64 0, .int .i64 0, .int .i64 0]), 5, 40) := by kernel_rfl
theorem undCones : Tryz.prog.underlying 24 = some (.slice 105) := by kernel_rfl
def cfl (q : Cone) (r : Nat) : Value := if r = 0 then .int .i64 q.x else if r = 1 then .int .i64 q.y else if r = 2 then .int .i64 q.z else if r = 3 then .int .i64 q.u else .int .i64 q.d
def conesL (n : Nat) (k : Nat → Cone) : List Value := (List.range (n * 5)).map fun j => cfl (k (j / 5)) (j % 5)
theorem conesL_get {n : Nat} {k : Nat → Cone} {i r : Nat} (hi : i < n) (hr : r < 5) : (conesL n k)[i * 5 + r]? = some (cfl (k i) r) := by
  have h : i * 5 + r < n * 5 := by omega
  have e1 : (i * 5 + r) / 5 = i := by omega
  have e2 : (i * 5 + r) % 5 = r := by omega
  simp [conesL, h, e1, e2]
theorem cones_news {w : World} {b off n : Nat} {k : Nat → Cone} (hk : KCt w b off n k) : ∀ j u, (conesL n k)[j]? = some u → w.cell? ((⟨b, off, none⟩ : Addr).add j) = some u := by
  intro j u hu
  have hj : j < n * 5 := by
    have := (List.getElem?_eq_some_iff.1 hu).1
    simpa [conesL] using this
  obtain ⟨i, r, hr, rfl⟩ : ∃ i r, r < 5 ∧ j = i * 5 + r := ⟨j / 5, j % 5, by omega, by omega⟩
  have hi : i < n := by omega
  rw [conesL_get hi hr] at hu
  obtain ⟨c1, c2, c3, c4, c5⟩ := hk.2 i hi
  rw [addr_add, ← hu]
  rcases (by omega : r = 0 ∨ r = 1 ∨ r = 2 ∨ r = 3 ∨ r = 4) with rfl | rfl | rfl | rfl | rfl
  · exact c1
  · rw [show off + (i * 5 + 1) = off + i * 5 + 1 by omega]; exact c2
  · rw [show off + (i * 5 + 2) = off + i * 5 + 2 by omega]; exact c3
  · rw [show off + (i * 5 + 3) = off + i * 5 + 3 by omega]; exact c4
  · rw [show off + (i * 5 + 4) = off + i * 5 + 4 by omega]; exact c5
theorem cfl_one (q : Cone) (r : Nat) : (cfl q r).oneCell' = true := by
  unfold cfl
  split
  · rfl
  · split
    · rfl
    · split
      · rfl
      · split <;> rfl
theorem cones_one (n : Nat) (k : Nat → Cone) : ∀ u ∈ conesL n k, u.oneCell' = true := by
  intro u hu
  obtain ⟨j, _, rfl⟩ := List.mem_map.1 hu
  exact cfl_one _ _
theorem own_cones {w : World} {base e n g cap : Nat} {k : Nat → Cone} (h : w.ownsRow base e 5 (.slice (some ⟨g, 0, none⟩) n cap) n (conesL n k)) (h0 : 0 < n) : KCt w g 0 n k ∧ n ≤ cap := by
  have hc := fun i r (hi : i < n) (hr : r < 5) => h.cells (g := g) rfl (i * 5 + r) (cfl (k i) r) (conesL_get hi hr)
  refine ⟨⟨lt_of (show w.cell? ⟨g, 0 + (0 * 5 + 0), none⟩ = some (cfl (k 0) 0) from (by have := hc 0 0 h0 (by decide); rwa [addr_add] at this)), fun i hi => ⟨?_, ?_, ?_, ?_, ?_⟩⟩, ?_⟩
  · have := hc i 0 hi (by decide); rw [addr_add] at this; exact this
  · have := hc i 1 hi (by decide); rw [addr_add] at this; rw [show 0 + i * 5 + 1 = 0 + (i * 5 + 1) by omega]; exact this
  · have := hc i 2 hi (by decide); rw [addr_add] at this; rw [show 0 + i * 5 + 2 = 0 + (i * 5 + 2) by omega]; exact this
  · have := hc i 3 hi (by decide); rw [addr_add] at this; rw [show 0 + i * 5 + 3 = 0 + (i * 5 + 3) by omega]; exact this
  · have := hc i 4 hi (by decide); rw [addr_add] at this; rw [show 0 + i * 5 + 4 = 0 + (i * 5 + 4) by omega]; exact this
  · rcases h.2 with ⟨h1, _⟩ | ⟨g', cap', cur, h1, _, _, h2, _⟩
    · cases h1
    · injection h1 with _ _ h3
      omega
theorem kct_set {w : World} {b off n : Nat} {k : Nat → Cone} {a : Addr} {v : Value} (h : KCt w b off n k) (ha : a.block ≠ b) : KCt (w.setCell a v) b off n k := by
  have hn : ∀ o, a ≠ ⟨b, o, none⟩ := fun o e => ha (by rw [e])
  refine ⟨by simpa [World.setCell] using h.1, fun i hi => ?_⟩
  obtain ⟨c1, c2, c3, c4, c5⟩ := h.2 i hi
  exact ⟨(World.cell?_setCell_other w a _ v (hn _)).trans c1, (World.cell?_setCell_other w a _ v (hn _)).trans c2, (World.cell?_setCell_other w a _ v (hn _)).trans c3, (World.cell?_setCell_other w a _ v (hn _)).trans c4, (World.cell?_setCell_other w a _ v (hn _)).trans c5⟩
attribute [local go_sem] lcf0 scl0
set_option maxRecDepth 100000 in
set_option maxHeartbeats 800000 in
theorem copySite_0 (x y z : Int) (A : Option Addr) (c : Nat) (w : World) (h0 : A = none → c = 0) :
    Calls Tryz.prog 41 #[.agg #[.int .i64 x, .int .i64 y, .int .i64 z, .slice A 0 c]] w fun e w' => ∃ A' c', e = .returned (.agg #[.int .i64 x, .int .i64 y, .int .i64 z, .slice A' 0 c']) ∧ Below w.heap.size w w' := by
  cases A with
  | none =>
    obtain rfl := h0 rfl
    go_enter Tryz.func41, Tryz.ntmps41
    go_wp2_with fail
    go_region_held3 (fun w' => w'.cell? ⟨w.heap.size, 0, none⟩ = some (.int .i64 x) ∧ w'.cell? ⟨w.heap.size, 1, none⟩ = some (.int .i64 y) ∧ w'.cell? ⟨w.heap.size, 2, none⟩ = some (.int .i64 z) ∧ w'.cell? ⟨w.heap.size, 3, none⟩ = some (.slice none 0 0)) (simp [go_sem, *]) (first | fail)
    all_goals
      go_wp2_with fail
      refine bodyPost_ret (v := .agg #[.int .i64 x, .int .i64 y, .int .i64 z, .slice (some ⟨w.heap.size + 1 + 1, 0, none⟩) 0 0]) (by simp [results, Tryz.results41, go_sem]) rfl ⟨_, _, rfl, by (repeat (first | with_reducible exact Below.refl _ _ | with_reducible assumption | with_reducible refine Below.alloc ?_ (by first | (simp; done) | (simp; omega) | omega) _ | with_reducible refine Below.setCell ?_ (by first | (simp; done) | (simp; omega) | omega) _ | with_reducible refine Below.drew ?_ | with_reducible refine below_drewN ?_ _))⟩
  | some a =>
    go_enter Tryz.func41, Tryz.ntmps41
    go_wp2_with fail
    go_region_held3 (fun w' => w'.cell? ⟨w.heap.size, 0, none⟩ = some (.int .i64 x) ∧ w'.cell? ⟨w.heap.size, 1, none⟩ = some (.int .i64 y) ∧ w'.cell? ⟨w.heap.size, 2, none⟩ = some (.int .i64 z) ∧ w'.cell? ⟨w.heap.size, 3, none⟩ = some (.slice (some a) 0 c)) (simp [go_sem, *]) (first | fail)
    all_goals
      go_wp2_with fail
      refine bodyPost_ret (v := .agg #[.int .i64 x, .int .i64 y, .int .i64 z, .slice (some ⟨w.heap.size + 1 + 1, 0, none⟩) 0 0]) (by simp [results, Tryz.results41, go_sem]) rfl ⟨_, _, rfl, by (repeat (first | with_reducible exact Below.refl _ _ | with_reducible assumption | with_reducible refine Below.alloc ?_ (by first | (simp; done) | (simp; omega) | omega) _ | with_reducible refine Below.setCell ?_ (by first | (simp; done) | (simp; omega) | omega) _ | with_reducible refine Below.drew ?_ | with_reducible refine below_drewN ?_ _))⟩
set_option maxRecDepth 100000 in
set_option maxHeartbeats 2000000 in
theorem copySite_some (x y z : Int) (b off n c : Nat) (k : Nat → Cone) (w : World) (h0 : 0 < n) (hn : n ≤ 1000000) (hk : KCt w b off n k) :
    Calls Tryz.prog 41 #[.agg #[.int .i64 x, .int .i64 y, .int .i64 z, .slice (some ⟨b, off, none⟩) n c]] w fun e w' => ∃ g c', e = .returned (.agg #[.int .i64 x, .int .i64 y, .int .i64 z, .slice (some ⟨g, 0, none⟩) n c']) ∧ KCt w' g 0 n k ∧ n ≤ c' ∧ w.heap.size ≤ g ∧ Below w.heap.size w w' := by
  obtain ⟨i0, hi0, hzz⟩ := Option.map_eq_some_iff.1 infoCone
  simp only [Prod.mk.injEq] at hzz
  obtain ⟨hz0, hz1, hz2⟩ := hzz
  have HN := Lib.hid hk
  clear hk
  go_enter Tryz.func41, Tryz.ntmps41
  go_wp2_with fail
  have hb := HN.out.1
  go_region_held3 (fun w' => w'.cell? ⟨w.heap.size, 0, none⟩ = some (.int .i64 x) ∧ w'.cell? ⟨w.heap.size, 1, none⟩ = some (.int .i64 y) ∧ w'.cell? ⟨w.heap.size, 2, none⟩ = some (.int .i64 z) ∧ w'.cell? ⟨w.heap.size, 3, none⟩ = some (.slice (some ⟨b, off, none⟩) n c)) (simp [go_sem, *])
    (first
      | (go_loud (
          refine step_append_lies (P := Tryz.prog) _ ?_ (.tmp 5) (.tmp 7) 24 ?_ (w.heap.size + 1 + 1) 105 i0 (.agg #[.int .i64 0, .int .i64 0, .int .i64 0, .int .i64 0, .int .i64 0]) 5 40 undCones hi0 hz0 hz1 hz2 ?_ ?_ (.slice (some ⟨w.heap.size + 1 + 1, 0, none⟩) 0 0) 0 [] ?_ ?_ ⟨b, off, none⟩ n c (conesL n k) ?_ ?_ ?_ ?_ h0 ?_ ?_ ?_ (w.heap.size + 1 + 1 + 1) ?_ ?_;
          (focus rfl);
          (focus rfl);
          (focus rfl);
          (focus decide);
          (focus (simp [Act.eval]));
          (focus (exact own_new _ _ (by simp)));
          (focus (simp [Act.eval]));
          (focus (simp [conesL]));
          (focus (exact cones_news (HN.out.below (B := w.heap.size) (by (repeat (first | with_reducible exact Below.refl _ _ | with_reducible assumption | with_reducible refine Below.alloc ?_ (by first | (simp; done) | (simp; omega) | omega) _ | with_reducible refine Below.setCell ?_ (by first | (simp; done) | (simp; omega) | omega) _ | with_reducible refine Below.drew ?_ | with_reducible refine below_drewN ?_ _))) hb)));
          (focus (exact cones_one n k));
          (focus (unfold maxLen; omega));
          (focus omega);
          (focus (simp));
          (focus (simp));
          intro g cap w1 hown hgrow hat hlt;
          have hB : Hid (Below w.heap.size w w1) := (by (repeat (first | with_reducible exact Below.refl _ _ | with_reducible assumption | with_reducible refine Below.alloc ?_ (by first | (simp; done) | (simp; omega) | omega) _ | with_reducible refine Below.setCell ?_ (by first | (simp; done) | (simp; omega) | omega) _ | with_reducible refine Below.drew ?_ | with_reducible refine below_drewN ?_ _)) : Below w.heap.size w _).grown hgrow (by first | (simp; done) | (simp; omega) | omega) (fun q hq => by cases hq; show w.heap.size ≤ w.heap.size + 1 + 1; omega);
          have hKA := Lib.hid (own_cones (by simpa using hown) h0);
          have e0 := hgrow.cell (a := ⟨w.heap.size, 0, none⟩) (show _ = some (.int .i64 x) by simp [go_sem]) (by simp [Value.ownBlock]; omega);
          have e1 := hgrow.cell (a := ⟨w.heap.size, 1, none⟩) (show _ = some (.int .i64 y) by simp [go_sem]) (by simp [Value.ownBlock]; omega);
          have e2 := hgrow.cell (a := ⟨w.heap.size, 2, none⟩) (show _ = some (.int .i64 z) by simp [go_sem]) (by simp [Value.ownBlock]; omega);
          have e3 := hgrow.cell (a := ⟨w.heap.size, 3, none⟩) (show _ = some (.slice (some ⟨b, off, none⟩) n c) by simp [go_sem]) (by simp [Value.ownBlock]; omega);
          have r0 := hgrow.cell (a := ⟨w.heap.size + 1, 0, none⟩) (show _ = some (.int .i64 0) by simp [go_sem]) (by simp [Value.ownBlock]);
          have f0 := (World.frozen?_of_block (a := ⟨w.heap.size + 1, 0, none⟩) (hgrow.block (w.heap.size + 1) (by first | (simp; done) | (simp; omega) | omega) (by simp [Value.ownBlock]))).trans (show _ = false by simp [go_sem]);
          have r1 := hgrow.cell (a := ⟨w.heap.size + 1, 1, none⟩) (show _ = some (.int .i64 0) by simp [go_sem]) (by simp [Value.ownBlock]);
          have f1 := (World.frozen?_of_block (a := ⟨w.heap.size + 1, 1, none⟩) (hgrow.block (w.heap.size + 1) (by first | (simp; done) | (simp; omega) | omega) (by simp [Value.ownBlock]))).trans (show _ = false by simp [go_sem]);
          have r2 := hgrow.cell (a := ⟨w.heap.size + 1, 2, none⟩) (show _ = some (.int .i64 0) by simp [go_sem]) (by simp [Value.ownBlock]);
          have f2 := (World.frozen?_of_block (a := ⟨w.heap.size + 1, 2, none⟩) (hgrow.block (w.heap.size + 1) (by first | (simp; done) | (simp; omega) | omega) (by simp [Value.ownBlock]))).trans (show _ = false by simp [go_sem]);
          have r3 := hgrow.cell (a := ⟨w.heap.size + 1, 3, none⟩) (show _ = some (.slice none 0 0) by simp [go_sem]) (by simp [Value.ownBlock]);
          have f3 := (World.frozen?_of_block (a := ⟨w.heap.size + 1, 3, none⟩) (hgrow.block (w.heap.size + 1) (by first | (simp; done) | (simp; omega) | omega) (by simp [Value.ownBlock]))).trans (show _ = false by simp [go_sem]);
          rw [Nat.zero_add];
          have hG := Lib.hid (g_ge hown);
          clear hown hgrow hat hlt)))
  all_goals
    go_wp2_with fail
    have hg2 := hG.out
    have hw1 : w.heap.size ≤ w.heap.size + 1 := by omega
    have hw2 := hB.out
    have hne : (⟨w.heap.size + 1, 0, none⟩ : Addr).block ≠ g := by show w.heap.size + 1 ≠ g; omega
    refine bodyPost_ret (v := .agg #[.int .i64 x, .int .i64 y, .int .i64 z, .slice (some ⟨g, 0, none⟩) n cap]) (by simp [results, Tryz.results41, go_sem, r0, r1, r2, r3]) rfl ⟨g, cap, rfl, kct_set (kct_set (kct_set (kct_set hKA.out.1 hne) hne) hne) hne, hKA.out.2, by omega, by (repeat (first | with_reducible exact Below.refl _ _ | with_reducible assumption | with_reducible refine Below.alloc ?_ (by first | (simp; done) | (simp; omega) | omega) _ | with_reducible refine Below.setCell ?_ (by first | (simp; done) | (simp; omega) | omega) _ | with_reducible refine Below.drew ?_ | with_reducible refine below_drewN ?_ _))⟩
theorem copySite_any (x y z : Int) (A : Option Addr) (n c : Nat) (k : Nat → Cone) (w : World) (hn : n ≤ 1000000) (h0 : A = none → n = 0 ∧ c = 0) (hk : KC w A n k) :
    Calls Tryz.prog 41 #[.agg #[.int .i64 x, .int .i64 y, .int .i64 z, .slice A n c]] w fun e w' => ∃ A' c', e = .returned (.agg #[.int .i64 x, .int .i64 y, .int .i64 z, .slice A' n c']) ∧ KC w' A' n k ∧ (0 < n → ∃ g, A' = some ⟨g, 0, none⟩ ∧ n ≤ c' ∧ w.heap.size ≤ g) ∧ Below w.heap.size w w' := by
  rcases Nat.eq_zero_or_pos n with e | e
  · subst e
    exact (copySite_0 x y z A c w (fun q => (h0 q).2)).mono fun e w' ⟨A', c', he, hb⟩ => ⟨A', c', he, fun h => absurd h (Nat.lt_irrefl 0), fun h => absurd h (Nat.lt_irrefl 0), hb⟩
  · obtain ⟨b, off, rfl, hk2⟩ := hk e
    exact (copySite_some x y z b off n c k w e hn hk2).mono fun e w' ⟨g, c', he, h1, h2, h3, hb⟩ => ⟨some ⟨g, 0, none⟩, c', he, fun _ => ⟨g, 0, rfl, h1⟩, fun _ => ⟨g, rfl, h2, h3⟩, hb⟩
end Go.Proofs.YtjncjoaohonmjaaGreat
namespace Go.Proofs.YtjncjoaohonmjaaGreat
open Go.RowKit Go.Shelf Go.Sort
attribute [local go_sem] idx3_0 idx3_1 idx3_2 old1 fro1 old2 fro2 old3 fro3 old4 fro4 old5 fro5 old6 fro6 old7 fro7 old8 fro8 old9 fro9 old10 fro10 old11 fro11 old12 fro12
attribute [local go_sem] lcf0 scl0
set_option maxRecDepth 100000 in
set_option maxHeartbeats 800000 in
theorem copyT_own (b off n c : Nat) (d : Int) (k : Nat → Knot) (w : World) (h0 : 0 < n) (hn : n ≤ 4398046510976) (hk : KAt w b off n k) :
    Calls Tryz.prog 10 #[.agg #[.slice (some ⟨b, off, none⟩) n c, .int .i64 d]] w fun e w' => ∃ g c', e = .returned (.agg #[.slice (some ⟨g, 0, none⟩) n c', .int .i64 d]) ∧ KAt w' g 0 n k ∧ w.heap.size ≤ g ∧ g < w'.heap.size ∧ (∀ j, w'.frozen? ⟨g, j, none⟩ = false) ∧ Below w.heap.size w w' := by
  obtain ⟨i0, hi0, hzz⟩ := Option.map_eq_some_iff.1 infoKnot
  simp only [Prod.mk.injEq] at hzz
  obtain ⟨hz0, hz1, hz2⟩ := hzz
  have HN := Lib.hid hk
  clear hk
  go_enter Tryz.func10, Tryz.ntmps10
  go_wp2_with fail
  have hb := HN.out.1
  go_region_held3 (fun w' => w'.cell? ⟨w.heap.size, 0, none⟩ = some (.slice (some ⟨b, off, none⟩) n c) ∧ w'.cell? ⟨w.heap.size, 1, none⟩ = some (.int .i64 d)) (simp [go_sem, *])
    (first
      | (go_loud (
          refine step_append_lies (P := Tryz.prog) _ ?_ (.tmp 3) (.tmp 5) 27 ?_ (w.heap.size + 1 + 1) 100 i0 (.agg #[.int .i64 0, .int .i64 0, .int .i64 0, .int .i64 0]) 4 32 undKnots hi0 hz0 hz1 hz2 ?_ ?_ (.slice (some ⟨w.heap.size + 1 + 1, 0, none⟩) 0 0) 0 [] ?_ ?_ ⟨b, off, none⟩ n c (knotsL n k) ?_ ?_ ?_ ?_ h0 ?_ ?_ ?_ (w.heap.size + 1 + 1 + 1) ?_ ?_;
          (focus rfl);
          (focus rfl);
          (focus rfl);
          (focus decide);
          (focus (simp [Act.eval]));
          (focus (exact own_new _ _ (by simp)));
          (focus (simp [Act.eval]));
          (focus (simp [knotsL]));
          (focus (exact knots_news (HN.out.below (B := w.heap.size) (by (repeat (first | with_reducible exact Below.refl _ _ | with_reducible assumption | with_reducible refine Below.alloc ?_ (by first | (simp; done) | (simp; omega) | omega) _ | with_reducible refine Below.setCell ?_ (by first | (simp; done) | (simp; omega) | omega) _ | with_reducible refine Below.drew ?_ | with_reducible refine below_drewN ?_ _))) hb)));
          (focus (exact knots_one n k));
          (focus (unfold maxLen; omega));
          (focus omega);
          (focus (simp));
          (focus (simp));
          intro g cap w1 hown hgrow hat hlt;
          have hB : Hid (Below w.heap.size w w1) := (by (repeat (first | with_reducible exact Below.refl _ _ | with_reducible assumption | with_reducible refine Below.alloc ?_ (by first | (simp; done) | (simp; omega) | omega) _ | with_reducible refine Below.setCell ?_ (by first | (simp; done) | (simp; omega) | omega) _ | with_reducible refine Below.drew ?_ | with_reducible refine below_drewN ?_ _)) : Below w.heap.size w _).grown hgrow (by first | (simp; done) | (simp; omega) | omega) (fun q hq => by cases hq; show w.heap.size ≤ w.heap.size + 1 + 1; omega);
          have hKA := Lib.hid (own_knots2 (by simpa using hown) h0);
          have e0 := hgrow.cell (a := ⟨w.heap.size, 0, none⟩) (show _ = some (.slice (some ⟨b, off, none⟩) n c) by simp [go_sem]) (by simp [Value.ownBlock]; omega);
          have e1 := hgrow.cell (a := ⟨w.heap.size, 1, none⟩) (show _ = some (.int .i64 d) by simp [go_sem]) (by simp [Value.ownBlock]; omega);
          have r0 := hgrow.cell (a := ⟨w.heap.size + 1, 0, none⟩) (show _ = some (.slice none 0 0) by simp [go_sem]) (by simp [Value.ownBlock]);
          have r1 := hgrow.cell (a := ⟨w.heap.size + 1, 1, none⟩) (show _ = some (.int .i64 0) by simp [go_sem]) (by simp [Value.ownBlock]);
          have f0 := (World.frozen?_of_block (a := ⟨w.heap.size + 1, 0, none⟩) (hgrow.block (w.heap.size + 1) (by first | (simp; done) | (simp; omega) | omega) (by simp [Value.ownBlock]))).trans (show _ = false by simp [go_sem]);
          have f1 := (World.frozen?_of_block (a := ⟨w.heap.size + 1, 1, none⟩) (hgrow.block (w.heap.size + 1) (by first | (simp; done) | (simp; omega) | omega) (by simp [Value.ownBlock]))).trans (show _ = false by simp [go_sem]);
          rw [Nat.zero_add];
          have hG := Lib.hid (g_ge hown);
          have hF : Hid (∀ j, w1.frozen? ⟨g, j, none⟩ = false) := fun j => World.ownsRow.frozenAt hown j;
          have hT := Lib.hid hlt;
          clear hown hgrow hat hlt)))
  all_goals
    go_wp2_with fail
    have hg2 := hG.out
    have hw1 : w.heap.size ≤ w.heap.size + 1 := by omega
    have hw2 := hB.out
    refine bodyPost_ret (v := .agg #[.slice (some ⟨g, 0, none⟩) n cap, .int .i64 d]) (by simp [results, Tryz.results10, go_sem, r0, r1]) rfl ⟨g, cap, rfl, kat_set (kat_set hKA.out (by show w.heap.size + 1 ≠ g; omega)) (by show w.heap.size + 1 ≠ g; omega), by omega, by simpa [go_sem] using hT.out, fun j => by simpa [go_sem] using hF.out j, by (repeat (first | with_reducible exact Below.refl _ _ | with_reducible assumption | with_reducible refine Below.alloc ?_ (by first | (simp; done) | (simp; omega) | omega) _ | with_reducible refine Below.setCell ?_ (by first | (simp; done) | (simp; omega) | omega) _ | with_reducible refine Below.drew ?_ | with_reducible refine below_drewN ?_ _))⟩
end Go.Proofs.YtjncjoaohonmjaaGreat
namespace Go.Proofs.YtjncjoaohonmjaaGreat
open Go.RowKit Go.Shelf Go.Sort
attribute [local go_sem] idx3_0 idx3_1 idx3_2 old1 fro1 old2 fro2 old3 fro3 old4 fro4 old5 fro5 old6 fro6 old7 fro7 old8 fro8 old9 fro9 old10 fro10 old11 fro11 old12 fro12
def mc0 : List Bool := [false, false, false, true, true, true, true, true, true, true, true, true, true]
theorem dep_of {o : Oper} {L : Nat → Bool} (h : ∀ e ∈ o.after, Region.binds .any e = true → L e.on = true) (j : Nat) (hj : (o.after.toList.any fun e => Nat.beq e.on j && Region.binds .any e) = true) : L j = true := by
  obtain ⟨e, he, h2⟩ := List.any_eq_true.1 hj
  obtain ⟨h3, h4⟩ := (Bool.and_eq_true _ _).mp h2
  replace h3 := Nat.eq_of_beq_eq_true h3
  subst h3
  exact h e (by simpa using he) h4
structure CVB (w : World) (ux uy uz : Int) (C SA SB : Option Addr) (n c na ca nb cb : Nat) (da db : Int) (W : World) : Prop where
  bel : Below w.heap.size w W
  b0 : W.cell? ⟨w.heap.size, 0, none⟩ = some (.int .i64 ux)
  b1 : W.cell? ⟨w.heap.size, 1, none⟩ = some (.int .i64 uy)
  b2 : W.cell? ⟨w.heap.size, 2, none⟩ = some (.int .i64 uz)
  b3 : W.cell? ⟨w.heap.size, 3, none⟩ = some (.slice C n c)
  b4 : W.cell? ⟨w.heap.size, 4, none⟩ = some (.slice SA na ca)
  b5 : W.cell? ⟨w.heap.size, 5, none⟩ = some (.int .i64 da)
  b6 : W.cell? ⟨w.heap.size, 6, none⟩ = some (.slice SB nb cb)
  b7 : W.cell? ⟨w.heap.size, 7, none⟩ = some (.int .i64 db)
  rf : ∀ i, i < 8 → W.frozen? ⟨w.heap.size + 1, i, none⟩ = false
  rc : ∀ i, i < 8 → (W.cell? ⟨w.heap.size + 1, i, none⟩).isSome = true
theorem sSome {W : World} {a b : Addr} {v : Value} (h : (W.cell? a).isSome = true) : ((W.setCell b v).cell? a).isSome = true := by
  by_cases e : b = a
  · subst e
    rw [World.cell?_setCell_same' _ _ _ h]
    rfl
  · rw [World.cell?_setCell_other _ _ _ _ e]
    exact h
theorem CVB.on {w : World} {ux uy uz : Int} {C SA SB : Option Addr} {n c na ca nb cb : Nat} {da db : Int} {W W1 : World} (h : CVB w ux uy uz C SA SB n c na ca nb cb da db W) (hb : Below W.heap.size W W1) : CVB w ux uy uz C SA SB n c na ca nb cb da db W1 :=
  ⟨belowT h.bel hb, keep hb h.b0, keep hb h.b1, keep hb h.b2, keep hb h.b3, keep hb h.b4, keep hb h.b5, keep hb h.b6, keep hb h.b7, fun i hi => by
    obtain ⟨v, hv⟩ := Option.isSome_iff_exists.1 (h.rc i hi)
    exact (hb.frozen (p := ⟨w.heap.size + 1, i, none⟩) (lt_of hv)).trans (h.rf i hi), fun i hi => by
    obtain ⟨v, hv⟩ := Option.isSome_iff_exists.1 (h.rc i hi)
    rw [keep hb hv]
    rfl⟩
theorem CVB.set {w : World} {ux uy uz : Int} {C SA SB : Option Addr} {n c na ca nb cb : Nat} {da db : Int} {W : World} (h : CVB w ux uy uz C SA SB n c na ca nb cb da db W) (i : Nat) (v : Value) : CVB w ux uy uz C SA SB n c na ca nb cb da db (W.setCell ⟨w.heap.size + 1, i, none⟩ v) :=
  ⟨h.bel.setCell (by show w.heap.size ≤ w.heap.size + 1; omega) v, (World.cell?_setCell_far _ _ _ _ (by show w.heap.size + 1 ≠ w.heap.size; omega)).trans h.b0, (World.cell?_setCell_far _ _ _ _ (by show w.heap.size + 1 ≠ w.heap.size; omega)).trans h.b1, (World.cell?_setCell_far _ _ _ _ (by show w.heap.size + 1 ≠ w.heap.size; omega)).trans h.b2, (World.cell?_setCell_far _ _ _ _ (by show w.heap.size + 1 ≠ w.heap.size; omega)).trans h.b3, (World.cell?_setCell_far _ _ _ _ (by show w.heap.size + 1 ≠ w.heap.size; omega)).trans h.b4, (World.cell?_setCell_far _ _ _ _ (by show w.heap.size + 1 ≠ w.heap.size; omega)).trans h.b5, (World.cell?_setCell_far _ _ _ _ (by show w.heap.size + 1 ≠ w.heap.size; omega)).trans h.b6, (World.cell?_setCell_far _ _ _ _ (by show w.heap.size + 1 ≠ w.heap.size; omega)).trans h.b7, fun i hi => (World.frozen?_setCell _ _ _ _).trans (h.rf i hi), fun i hi => sSome (h.rc i hi)⟩
def ox : Option Addr → Nat
  | some a => a.block
  | none => 0
theorem kaFar {W : World} {X : Option Addr} {n p i : Nat} {v : Value} {k : Nat → Knot} (h : KA W X n k) (hp : 0 < n → ox X ≠ p) : KA (W.setCell ⟨p, i, none⟩ v) X n k := by
  intro h0
  obtain ⟨b, off, rfl, h2⟩ := h h0
  exact ⟨b, off, rfl, kat_set h2 (fun e => hp h0 e.symm)⟩
theorem kcFar {W : World} {X : Option Addr} {n p i : Nat} {v : Value} {k : Nat → Cone} (h : KC W X n k) (hp : 0 < n → ox X ≠ p) : KC (W.setCell ⟨p, i, none⟩ v) X n k := by
  intro h0
  obtain ⟨b, off, rfl, h2⟩ := h h0
  exact ⟨b, off, rfl, kct_set h2 (fun e => hp h0 e.symm)⟩
theorem cv_copy (A : Option Addr) (n c : Nat) (d : Int) (k : Nat → Knot) (w : World) (hn : n ≤ 1000000) (h0 : A = none → n = 0 ∧ c = 0) (hk : KA w A n k) :
    Calls Tryz.prog 10 #[.agg #[.slice A n c, .int .i64 d]] w fun e w' => ∃ X c1, e = .returned (.agg #[.slice X n c1, .int .i64 d]) ∧ KA w' X n k ∧ (0 < n → w.heap.size ≤ ox X) ∧ Below w.heap.size w w' := by
  rcases Nat.eq_zero_or_pos n with e | e
  · subst e
    exact (copyT_0 A c d w (fun q => (h0 q).2)).mono fun e w' ⟨A', c', he, hb⟩ => ⟨A', c', he, fun h => absurd h (Nat.lt_irrefl 0), fun h => absurd h (Nat.lt_irrefl 0), hb⟩
  · obtain ⟨b, off, rfl, hk2⟩ := hk e
    exact (copyT_own b off n c d k w e (by omega) hk2).mono fun e w' ⟨g, c', he, h1, h2, _, _, hb⟩ => ⟨some ⟨g, 0, none⟩, c', he, fun _ => ⟨g, 0, rfl, h1⟩, fun _ => h2, hb⟩
def CJ (w : World) (ux uy uz : Int) (C SA SB : Option Addr) (n c na ca nb cb : Nat) (da db : Int) (k : Nat → Cone) (ka kb : Nat → Knot) (L : Nat → Bool) (V : Nat → Value) (W : World) : Prop :=
  CVB w ux uy uz C SA SB n c na ca nb cb da db W ∧ (L 0 = true → V 3 = .pointer (some ⟨w.heap.size, 0, none⟩)) ∧ (L 1 = true → V 4 = .agg #[.int .i64 ux, .int .i64 uy, .int .i64 uz, .slice C n c]) ∧ (L 3 = true → V 6 = .pointer (some ⟨w.heap.size, 4, none⟩)) ∧ (L 4 = true → V 7 = .agg #[.slice SA na ca, .int .i64 da]) ∧ (L 6 = true → V 9 = .pointer (some ⟨w.heap.size, 6, none⟩)) ∧ (L 7 = true → V 10 = .agg #[.slice SB nb cb, .int .i64 db]) ∧ ∃ X cX Y cY Z cZ,
    (L 2 = true → V 5 = .agg #[.int .i64 ux, .int .i64 uy, .int .i64 uz, .slice X n cX] ∧ KC W X n k ∧ (0 < n → ox X ≠ w.heap.size + 1) ∧ (0 < n → ∃ g, X = some ⟨g, 0, none⟩ ∧ n ≤ cX)) ∧
    (L 5 = true → V 8 = .agg #[.slice Y na cY, .int .i64 da] ∧ KA W Y na ka ∧ (0 < na → ox Y ≠ w.heap.size + 1)) ∧
    (L 8 = true → V 11 = .agg #[.slice Z nb cZ, .int .i64 db] ∧ KA W Z nb kb ∧ (0 < nb → ox Z ≠ w.heap.size + 1)) ∧
    (L 9 = true → L 2 = true ∧ L 5 = true ∧ L 8 = true ∧ V 12 = .agg #[.int .i64 ux, .int .i64 uy, .int .i64 uz, .slice X n cX, .slice Y na cY, .int .i64 da, .slice Z nb cZ, .int .i64 db]) ∧
    (L 10 = true → L 9 = true ∧ W.cell? ⟨w.heap.size + 1, 0, none⟩ = some (.int .i64 ux) ∧ W.cell? ⟨w.heap.size + 1, 1, none⟩ = some (.int .i64 uy) ∧ W.cell? ⟨w.heap.size + 1, 2, none⟩ = some (.int .i64 uz) ∧ W.cell? ⟨w.heap.size + 1, 3, none⟩ = some (.slice X n cX) ∧ W.cell? ⟨w.heap.size + 1, 4, none⟩ = some (.slice Y na cY) ∧ W.cell? ⟨w.heap.size + 1, 5, none⟩ = some (.int .i64 da) ∧ W.cell? ⟨w.heap.size + 1, 6, none⟩ = some (.slice Z nb cZ) ∧ W.cell? ⟨w.heap.size + 1, 7, none⟩ = some (.int .i64 db))
theorem st8 (B : Nat) (w : World) (v0 v1 v2 v3 v4 v5 v6 v7 : Value) (hc : ∀ i, i < 8 → (w.cell? ⟨B + 1, i, none⟩).isSome = true) : ((((((((w.setCell ⟨B + 1, 0, none⟩ v0).setCell ⟨B + 1, 1, none⟩ v1).setCell ⟨B + 1, 2, none⟩ v2).setCell ⟨B + 1, 3, none⟩ v3).setCell ⟨B + 1, 4, none⟩ v4).setCell ⟨B + 1, 5, none⟩ v5).setCell ⟨B + 1, 6, none⟩ v6).setCell ⟨B + 1, 7, none⟩ v7).cell? ⟨B + 1, 0, none⟩ = some v0 ∧ ((((((((w.setCell ⟨B + 1, 0, none⟩ v0).setCell ⟨B + 1, 1, none⟩ v1).setCell ⟨B + 1, 2, none⟩ v2).setCell ⟨B + 1, 3, none⟩ v3).setCell ⟨B + 1, 4, none⟩ v4).setCell ⟨B + 1, 5, none⟩ v5).setCell ⟨B + 1, 6, none⟩ v6).setCell ⟨B + 1, 7, none⟩ v7).cell? ⟨B + 1, 1, none⟩ = some v1 ∧ ((((((((w.setCell ⟨B + 1, 0, none⟩ v0).setCell ⟨B + 1, 1, none⟩ v1).setCell ⟨B + 1, 2, none⟩ v2).setCell ⟨B + 1, 3, none⟩ v3).setCell ⟨B + 1, 4, none⟩ v4).setCell ⟨B + 1, 5, none⟩ v5).setCell ⟨B + 1, 6, none⟩ v6).setCell ⟨B + 1, 7, none⟩ v7).cell? ⟨B + 1, 2, none⟩ = some v2 ∧ ((((((((w.setCell ⟨B + 1, 0, none⟩ v0).setCell ⟨B + 1, 1, none⟩ v1).setCell ⟨B + 1, 2, none⟩ v2).setCell ⟨B + 1, 3, none⟩ v3).setCell ⟨B + 1, 4, none⟩ v4).setCell ⟨B + 1, 5, none⟩ v5).setCell ⟨B + 1, 6, none⟩ v6).setCell ⟨B + 1, 7, none⟩ v7).cell? ⟨B + 1, 3, none⟩ = some v3 ∧ ((((((((w.setCell ⟨B + 1, 0, none⟩ v0).setCell ⟨B + 1, 1, none⟩ v1).setCell ⟨B + 1, 2, none⟩ v2).setCell ⟨B + 1, 3, none⟩ v3).setCell ⟨B + 1, 4, none⟩ v4).setCell ⟨B + 1, 5, none⟩ v5).setCell ⟨B + 1, 6, none⟩ v6).setCell ⟨B + 1, 7, none⟩ v7).cell? ⟨B + 1, 4, none⟩ = some v4 ∧ ((((((((w.setCell ⟨B + 1, 0, none⟩ v0).setCell ⟨B + 1, 1, none⟩ v1).setCell ⟨B + 1, 2, none⟩ v2).setCell ⟨B + 1, 3, none⟩ v3).setCell ⟨B + 1, 4, none⟩ v4).setCell ⟨B + 1, 5, none⟩ v5).setCell ⟨B + 1, 6, none⟩ v6).setCell ⟨B + 1, 7, none⟩ v7).cell? ⟨B + 1, 5, none⟩ = some v5 ∧ ((((((((w.setCell ⟨B + 1, 0, none⟩ v0).setCell ⟨B + 1, 1, none⟩ v1).setCell ⟨B + 1, 2, none⟩ v2).setCell ⟨B + 1, 3, none⟩ v3).setCell ⟨B + 1, 4, none⟩ v4).setCell ⟨B + 1, 5, none⟩ v5).setCell ⟨B + 1, 6, none⟩ v6).setCell ⟨B + 1, 7, none⟩ v7).cell? ⟨B + 1, 6, none⟩ = some v6 ∧ ((((((((w.setCell ⟨B + 1, 0, none⟩ v0).setCell ⟨B + 1, 1, none⟩ v1).setCell ⟨B + 1, 2, none⟩ v2).setCell ⟨B + 1, 3, none⟩ v3).setCell ⟨B + 1, 4, none⟩ v4).setCell ⟨B + 1, 5, none⟩ v5).setCell ⟨B + 1, 6, none⟩ v6).setCell ⟨B + 1, 7, none⟩ v7).cell? ⟨B + 1, 7, none⟩ = some v7 := by
  have ne : ∀ {i j : Nat}, i ≠ j → (⟨B + 1, i, none⟩ : Addr) ≠ ⟨B + 1, j, none⟩ := fun h e => h (congrArg Addr.off e)
  exact ⟨(by rw [World.cell?_setCell_other _ _ _ _ (ne (by decide : 7 ≠ 0))]; rw [World.cell?_setCell_other _ _ _ _ (ne (by decide : 6 ≠ 0))]; rw [World.cell?_setCell_other _ _ _ _ (ne (by decide : 5 ≠ 0))]; rw [World.cell?_setCell_other _ _ _ _ (ne (by decide : 4 ≠ 0))]; rw [World.cell?_setCell_other _ _ _ _ (ne (by decide : 3 ≠ 0))]; rw [World.cell?_setCell_other _ _ _ _ (ne (by decide : 2 ≠ 0))]; rw [World.cell?_setCell_other _ _ _ _ (ne (by decide : 1 ≠ 0))]; exact World.cell?_setCell_same' _ _ _ (hc 0 (by omega))), (by rw [World.cell?_setCell_other _ _ _ _ (ne (by decide : 7 ≠ 1))]; rw [World.cell?_setCell_other _ _ _ _ (ne (by decide : 6 ≠ 1))]; rw [World.cell?_setCell_other _ _ _ _ (ne (by decide : 5 ≠ 1))]; rw [World.cell?_setCell_other _ _ _ _ (ne (by decide : 4 ≠ 1))]; rw [World.cell?_setCell_other _ _ _ _ (ne (by decide : 3 ≠ 1))]; rw [World.cell?_setCell_other _ _ _ _ (ne (by decide : 2 ≠ 1))]; exact World.cell?_setCell_same' _ _ _ (sSome (hc 1 (by omega)))), (by rw [World.cell?_setCell_other _ _ _ _ (ne (by decide : 7 ≠ 2))]; rw [World.cell?_setCell_other _ _ _ _ (ne (by decide : 6 ≠ 2))]; rw [World.cell?_setCell_other _ _ _ _ (ne (by decide : 5 ≠ 2))]; rw [World.cell?_setCell_other _ _ _ _ (ne (by decide : 4 ≠ 2))]; rw [World.cell?_setCell_other _ _ _ _ (ne (by decide : 3 ≠ 2))]; exact World.cell?_setCell_same' _ _ _ (sSome (sSome (hc 2 (by omega))))), (by rw [World.cell?_setCell_other _ _ _ _ (ne (by decide : 7 ≠ 3))]; rw [World.cell?_setCell_other _ _ _ _ (ne (by decide : 6 ≠ 3))]; rw [World.cell?_setCell_other _ _ _ _ (ne (by decide : 5 ≠ 3))]; rw [World.cell?_setCell_other _ _ _ _ (ne (by decide : 4 ≠ 3))]; exact World.cell?_setCell_same' _ _ _ (sSome (sSome (sSome (hc 3 (by omega)))))), (by rw [World.cell?_setCell_other _ _ _ _ (ne (by decide : 7 ≠ 4))]; rw [World.cell?_setCell_other _ _ _ _ (ne (by decide : 6 ≠ 4))]; rw [World.cell?_setCell_other _ _ _ _ (ne (by decide : 5 ≠ 4))]; exact World.cell?_setCell_same' _ _ _ (sSome (sSome (sSome (sSome (hc 4 (by omega))))))), (by rw [World.cell?_setCell_other _ _ _ _ (ne (by decide : 7 ≠ 5))]; rw [World.cell?_setCell_other _ _ _ _ (ne (by decide : 6 ≠ 5))]; exact World.cell?_setCell_same' _ _ _ (sSome (sSome (sSome (sSome (sSome (hc 5 (by omega)))))))), (by rw [World.cell?_setCell_other _ _ _ _ (ne (by decide : 7 ≠ 6))]; exact World.cell?_setCell_same' _ _ _ (sSome (sSome (sSome (sSome (sSome (sSome (hc 6 (by omega))))))))), (by exact World.cell?_setCell_same' _ _ _ (sSome (sSome (sSome (sSome (sSome (sSome (sSome (hc 7 (by omega))))))))))⟩
set_option maxRecDepth 100000 in
set_option maxHeartbeats 4000000 in
theorem copyView_any (ux uy uz : Int) (C SA SB : Option Addr) (n c na ca nb cb : Nat) (da db : Int) (k : Nat → Cone) (ka kb : Nat → Knot) (w : World) (hn : n ≤ 1000000) (hna : na ≤ 1000000) (hnb : nb ≤ 1000000) (hC0' : C = none → n = 0 ∧ c = 0) (hA0' : SA = none → na = 0 ∧ ca = 0) (hB0' : SB = none → nb = 0 ∧ cb = 0) (hk : KC w C n k) (hA : KA w SA na ka) (hB : KA w SB nb kb) :
    Calls Tryz.prog 14 #[.agg #[.int .i64 ux, .int .i64 uy, .int .i64 uz, .slice C n c, .slice SA na ca, .int .i64 da, .slice SB nb cb, .int .i64 db]] w fun e w' => ∃ X cX Y cY Z cZ, e = .returned (.agg #[.int .i64 ux, .int .i64 uy, .int .i64 uz, .slice X n cX, .slice Y na cY, .int .i64 da, .slice Z nb cZ, .int .i64 db]) ∧ KC w' X n k ∧ (0 < n → ∃ g, X = some ⟨g, 0, none⟩ ∧ n ≤ cX) ∧ KA w' Y na ka ∧ KA w' Z nb kb ∧ Below w.heap.size w w' := by
  have hC0 := Lib.hid hC0'
  have hA0 := Lib.hid hA0'
  have hB0 := Lib.hid hB0'
  have HC := Lib.hid hk
  have HA := Lib.hid hA
  have HB := Lib.hid hB
  clear hC0' hA0' hB0' hk hA hB
  go_enter Tryz.func14, Tryz.ntmps14
  go_wp2_with fail
  refine wp_region_inv mc0 (by kernel_rfl) (CJ w ux uy uz C SA SB n c na ca nb cb da db k ka kb) rfl (by kernel_rfl) ⟨⟨by (repeat (first | with_reducible exact Below.refl _ _ | with_reducible assumption | with_reducible refine Below.alloc ?_ (by first | (simp; done) | (simp; omega) | omega) _ | with_reducible refine Below.setCell ?_ (by first | (simp; done) | (simp; omega) | omega) _ | with_reducible refine Below.drew ?_ | with_reducible refine below_drewN ?_ _)), by simp [go_sem], by simp [go_sem], by simp [go_sem], by simp [go_sem], by simp [go_sem], by simp [go_sem], by simp [go_sem], by simp [go_sem], fun i hi => by rcases (by omega : i = 0 ∨ i = 1 ∨ i = 2 ∨ i = 3 ∨ i = 4 ∨ i = 5 ∨ i = 6 ∨ i = 7) with rfl | rfl | rfl | rfl | rfl | rfl | rfl | rfl <;> simp [go_sem], fun i hi => by rcases (by omega : i = 0 ∨ i = 1 ∨ i = 2 ∨ i = 3 ∨ i = 4 ∨ i = 5 ∨ i = 6 ∨ i = 7) with rfl | rfl | rfl | rfl | rfl | rfl | rfl | rfl <;> simp [go_sem]⟩, nofun, nofun, nofun, nofun, nofun, nofun, none, 0, none, 0, none, 0, nofun, nofun, nofun, nofun, nofun⟩ (allOps_cons (fun L a' w' hL hD hs hJ K hK => by
    obtain ⟨hb, h0, h1, h3, h4, h6, h7, X, cX, Y, cY, Z, cZ, hX, hY, hZ, hL9, hL10⟩ := hJ
    have e1 := (hs.get 1 (by kernel_rfl)).trans (show _ = Value.pointer (some ⟨w.heap.size, 0, none⟩) from rfl)
    unfold Oper.wp
    generalize a'.eval = ρ at e1 ⊢
    simp [go_sem, e1]
    exact hK _ _ ⟨hb, fun _ => rfl, h1, h3, h4, h6, h7, X, cX, Y, cY, Z, cZ, hX, hY, hZ, hL9, hL10⟩) <|
      allOps_cons (fun L a' w' hL hD hs hJ K hK => by
    obtain ⟨hb, h0, h1, h3, h4, h6, h7, X, cX, Y, cY, Z, cZ, hX, hY, hZ, hL9, hL10⟩ := hJ
    have e1 : a'.eval (.tmp 3) = .pointer (some ⟨w.heap.size, 0, none⟩) := h0 (dep_of hD 0 (by kernel_rfl))
    have c0 := hb.b0
    have c1 := hb.b1
    have c2 := hb.b2
    have c3 := hb.b3
    unfold Oper.wp
    generalize a'.eval = ρ at e1 ⊢
    simp [go_sem, e1, c0, c1, c2, c3]
    exact hK _ _ ⟨hb, h0, fun _ => rfl, h3, h4, h6, h7, X, cX, Y, cY, Z, cZ, hX, hY, hZ, hL9, hL10⟩) <|
      allOps_cons (fun L a' w' hL hD hs hJ K hK => by
    obtain ⟨hb, h0, h1, h3, h4, h6, h7, X, cX, Y, cY, Z, cZ, hX, hY, hZ, hL9, hL10⟩ := hJ
    have e1 : a'.eval (.tmp 4) = .agg #[.int .i64 ux, .int .i64 uy, .int .i64 uz, .slice C n c] := h1 (dep_of hD 1 (by kernel_rfl))
    refine Oper.wp_mono ?_ (rg_fn (φ := fun v w'' => ∃ X c1, v = .agg #[.int .i64 ux, .int .i64 uy, .int .i64 uz, .slice X n c1] ∧ KC w'' X n k ∧ (0 < n → ∃ g, X = some ⟨g, 0, none⟩ ∧ n ≤ c1 ∧ w'.heap.size ≤ g)) (vs := #[.agg #[.int .i64 ux, .int .i64 uy, .int .i64 uz, .slice C n c]]) rfl (enters_of Tryz.func41 (by kernel_rfl) rfl) (by simp [e1]) ((copySite_any ux uy uz C n c k w' hn hC0.out (HC.out.bel (hb.bel))).mono (by rintro e w1 ⟨X1, c1, rfl, hk, hg, h⟩; exact ⟨_, rfl, h, X1, c1, rfl, hk, hg⟩)))
    have hz : w.heap.size + 1 < w'.heap.size := by
      obtain ⟨v, hv⟩ := Option.isSome_iff_exists.1 (hb.rc 0 (by omega))
      exact lt_of hv
    rintro a'' w'' ⟨v, rfl, h, X1, c1, rfl, hk, hg⟩
    exact hK _ _ ⟨hb.on h, h0, h1, h3, h4, h6, h7, X1, c1, Y, cY, Z, cZ, fun _ => ⟨rfl, hk, fun h0 => by obtain ⟨g, rfl, _, hg2⟩ := hg h0; show g ≠ w.heap.size + 1; omega, fun h0 => by obtain ⟨g, e, hg2, _⟩ := hg h0; exact ⟨g, e, hg2⟩⟩, fun l => ⟨(hY l).1, (hY l).2.1.bel h, (hY l).2.2⟩, fun l => ⟨(hZ l).1, (hZ l).2.1.bel h, (hZ l).2.2⟩, fun l => by rw [hL] at hL9; exact absurd (hL9 l).1 (by simp), fun l => by have l9 := (hL10 l).1; rw [hL] at hL9; exact absurd (hL9 l9).1 (by simp)⟩) <|
      allOps_cons (fun L a' w' hL hD hs hJ K hK => by
    obtain ⟨hb, h0, h1, h3, h4, h6, h7, X, cX, Y, cY, Z, cZ, hX, hY, hZ, hL9, hL10⟩ := hJ
    have e1 := (hs.get 1 (by kernel_rfl)).trans (show _ = Value.pointer (some ⟨w.heap.size, 0, none⟩) from rfl)
    unfold Oper.wp
    generalize a'.eval = ρ at e1 ⊢
    simp [go_sem, e1]
    exact hK _ _ ⟨hb, h0, h1, fun _ => rfl, h4, h6, h7, X, cX, Y, cY, Z, cZ, hX, hY, hZ, hL9, hL10⟩) <|
      allOps_cons (fun L a' w' hL hD hs hJ K hK => by
    obtain ⟨hb, h0, h1, h3, h4, h6, h7, X, cX, Y, cY, Z, cZ, hX, hY, hZ, hL9, hL10⟩ := hJ
    have e1 : a'.eval (.tmp 6) = .pointer (some ⟨w.heap.size, 4, none⟩) := h3 (dep_of hD 3 (by kernel_rfl))
    have c0 := hb.b4
    have c1 := hb.b5
    unfold Oper.wp
    generalize a'.eval = ρ at e1 ⊢
    simp [go_sem, e1, c0, c1]
    exact hK _ _ ⟨hb, h0, h1, h3, fun _ => rfl, h6, h7, X, cX, Y, cY, Z, cZ, hX, hY, hZ, hL9, hL10⟩) <|
      allOps_cons (fun L a' w' hL hD hs hJ K hK => by
    obtain ⟨hb, h0, h1, h3, h4, h6, h7, X, cX, Y, cY, Z, cZ, hX, hY, hZ, hL9, hL10⟩ := hJ
    have e1 : a'.eval (.tmp 7) = .agg #[.slice SA na ca, .int .i64 da] := h4 (dep_of hD 4 (by kernel_rfl))
    refine Oper.wp_mono ?_ (rg_fn (φ := fun v w'' => ∃ X c1, v = .agg #[.slice X na c1, .int .i64 da] ∧ KA w'' X na ka ∧ (0 < na → w'.heap.size ≤ ox X)) (vs := #[.agg #[.slice SA na ca, .int .i64 da]]) rfl (enters_of Tryz.func10 (by kernel_rfl) rfl) (by simp [e1]) ((cv_copy SA na ca da ka w' (by omega) hA0.out (HA.out.bel (hb.bel))).mono (by rintro e w1 ⟨X1, c1, rfl, hk, hg, h⟩; exact ⟨_, rfl, h, X1, c1, rfl, hk, hg⟩)))
    have hz : w.heap.size + 1 < w'.heap.size := by
      obtain ⟨v, hv⟩ := Option.isSome_iff_exists.1 (hb.rc 0 (by omega))
      exact lt_of hv
    rintro a'' w'' ⟨v, rfl, h, X1, c1, rfl, hk, hg⟩
    exact hK _ _ ⟨hb.on h, h0, h1, h3, h4, h6, h7, X, cX, X1, c1, Z, cZ, fun l => ⟨(hX l).1, (hX l).2.1.bel h, (hX l).2.2⟩, fun _ => ⟨rfl, hk, fun h0 => by have := hg h0; omega⟩, fun l => ⟨(hZ l).1, (hZ l).2.1.bel h, (hZ l).2.2⟩, fun l => by rw [hL] at hL9; exact absurd (hL9 l).2.1 (by simp), fun l => by have l9 := (hL10 l).1; rw [hL] at hL9; exact absurd (hL9 l9).2.1 (by simp)⟩) <|
      allOps_cons (fun L a' w' hL hD hs hJ K hK => by
    obtain ⟨hb, h0, h1, h3, h4, h6, h7, X, cX, Y, cY, Z, cZ, hX, hY, hZ, hL9, hL10⟩ := hJ
    have e1 := (hs.get 1 (by kernel_rfl)).trans (show _ = Value.pointer (some ⟨w.heap.size, 0, none⟩) from rfl)
    unfold Oper.wp
    generalize a'.eval = ρ at e1 ⊢
    simp [go_sem, e1]
    exact hK _ _ ⟨hb, h0, h1, h3, h4, fun _ => rfl, h7, X, cX, Y, cY, Z, cZ, hX, hY, hZ, hL9, hL10⟩) <|
      allOps_cons (fun L a' w' hL hD hs hJ K hK => by
    obtain ⟨hb, h0, h1, h3, h4, h6, h7, X, cX, Y, cY, Z, cZ, hX, hY, hZ, hL9, hL10⟩ := hJ
    have e1 : a'.eval (.tmp 9) = .pointer (some ⟨w.heap.size, 6, none⟩) := h6 (dep_of hD 6 (by kernel_rfl))
    have c0 := hb.b6
    have c1 := hb.b7
    unfold Oper.wp
    generalize a'.eval = ρ at e1 ⊢
    simp [go_sem, e1, c0, c1]
    exact hK _ _ ⟨hb, h0, h1, h3, h4, h6, fun _ => rfl, X, cX, Y, cY, Z, cZ, hX, hY, hZ, hL9, hL10⟩) <|
      allOps_cons (fun L a' w' hL hD hs hJ K hK => by
    obtain ⟨hb, h0, h1, h3, h4, h6, h7, X, cX, Y, cY, Z, cZ, hX, hY, hZ, hL9, hL10⟩ := hJ
    have e1 : a'.eval (.tmp 10) = .agg #[.slice SB nb cb, .int .i64 db] := h7 (dep_of hD 7 (by kernel_rfl))
    refine Oper.wp_mono ?_ (rg_fn (φ := fun v w'' => ∃ X c1, v = .agg #[.slice X nb c1, .int .i64 db] ∧ KA w'' X nb kb ∧ (0 < nb → w'.heap.size ≤ ox X)) (vs := #[.agg #[.slice SB nb cb, .int .i64 db]]) rfl (enters_of Tryz.func10 (by kernel_rfl) rfl) (by simp [e1]) ((cv_copy SB nb cb db kb w' (by omega) hB0.out (HB.out.bel (hb.bel))).mono (by rintro e w1 ⟨X1, c1, rfl, hk, hg, h⟩; exact ⟨_, rfl, h, X1, c1, rfl, hk, hg⟩)))
    have hz : w.heap.size + 1 < w'.heap.size := by
      obtain ⟨v, hv⟩ := Option.isSome_iff_exists.1 (hb.rc 0 (by omega))
      exact lt_of hv
    rintro a'' w'' ⟨v, rfl, h, X1, c1, rfl, hk, hg⟩
    exact hK _ _ ⟨hb.on h, h0, h1, h3, h4, h6, h7, X, cX, Y, cY, X1, c1, fun l => ⟨(hX l).1, (hX l).2.1.bel h, (hX l).2.2⟩, fun l => ⟨(hY l).1, (hY l).2.1.bel h, (hY l).2.2⟩, fun _ => ⟨rfl, hk, fun h0 => by have := hg h0; omega⟩, fun l => by rw [hL] at hL9; exact absurd (hL9 l).2.2.1 (by simp), fun l => by have l9 := (hL10 l).1; rw [hL] at hL9; exact absurd (hL9 l9).2.2.1 (by simp)⟩) <|
      allOps_cons (fun L a' w' hL hD hs hJ K hK => by
    obtain ⟨hb, h0, h1, h3, h4, h6, h7, X, cX, Y, cY, Z, cZ, hX, hY, hZ, hL9, hL10⟩ := hJ
    have l2 : L 2 = true := dep_of hD 2 (by kernel_rfl)
    have l5 : L 5 = true := dep_of hD 5 (by kernel_rfl)
    have l8 : L 8 = true := dep_of hD 8 (by kernel_rfl)
    have e1 : a'.eval (.tmp 5) = .agg #[.int .i64 ux, .int .i64 uy, .int .i64 uz, .slice X n cX] := (hX l2).1
    have e2 : a'.eval (.tmp 8) = .agg #[.slice Y na cY, .int .i64 da] := (hY l5).1
    have e3 : a'.eval (.tmp 11) = .agg #[.slice Z nb cZ, .int .i64 db] := (hZ l8).1
    unfold Oper.wp
    generalize a'.eval = ρ at e1 e2 e3 ⊢
    simp [go_sem, e1, e2, e3]
    exact hK _ _ ⟨hb, h0, h1, h3, h4, h6, h7, X, cX, Y, cY, Z, cZ, hX, hY, hZ, fun _ => ⟨l2, l5, l8, rfl⟩, fun l => ⟨rfl, (hL10 l).2⟩⟩) <|
      allOps_cons (fun L a' w' hL hD hs hJ K hK => by
    obtain ⟨hb, h0, h1, h3, h4, h6, h7, X, cX, Y, cY, Z, cZ, hX, hY, hZ, hL9, hL10⟩ := hJ
    have l9 : L 9 = true := dep_of hD 9 (by kernel_rfl)
    obtain ⟨l2, l5, l8, hv⟩ := hL9 l9
    have e1 := (hs.get 2 (by kernel_rfl)).trans (show _ = Value.pointer (some ⟨w.heap.size + 1, 0, none⟩) from rfl)
    have e2 : a'.eval (.tmp 12) = .agg #[.int .i64 ux, .int .i64 uy, .int .i64 uz, .slice X n cX, .slice Y na cY, .int .i64 da, .slice Z nb cZ, .int .i64 db] := hv
    have hw := st8 w.heap.size w' (.int .i64 ux) (.int .i64 uy) (.int .i64 uz) (.slice X n cX) (.slice Y na cY) (.int .i64 da) (.slice Z nb cZ) (.int .i64 db) hb.rc
    have f0 := hb.rf 0 (by omega)
    obtain ⟨u0, c0⟩ := Option.isSome_iff_exists.1 (hb.rc 0 (by omega))
    have f1 := hb.rf 1 (by omega)
    obtain ⟨u1, c1⟩ := Option.isSome_iff_exists.1 (hb.rc 1 (by omega))
    have f2 := hb.rf 2 (by omega)
    obtain ⟨u2, c2⟩ := Option.isSome_iff_exists.1 (hb.rc 2 (by omega))
    have f3 := hb.rf 3 (by omega)
    obtain ⟨u3, c3⟩ := Option.isSome_iff_exists.1 (hb.rc 3 (by omega))
    have f4 := hb.rf 4 (by omega)
    obtain ⟨u4, c4⟩ := Option.isSome_iff_exists.1 (hb.rc 4 (by omega))
    have f5 := hb.rf 5 (by omega)
    obtain ⟨u5, c5⟩ := Option.isSome_iff_exists.1 (hb.rc 5 (by omega))
    have f6 := hb.rf 6 (by omega)
    obtain ⟨u6, c6⟩ := Option.isSome_iff_exists.1 (hb.rc 6 (by omega))
    have f7 := hb.rf 7 (by omega)
    obtain ⟨u7, c7⟩ := Option.isSome_iff_exists.1 (hb.rc 7 (by omega))
    unfold Oper.wp
    generalize a'.eval = ρ at e1 e2 ⊢
    simp [go_sem, e1, e2, f0, c0, f1, c1, f2, c2, f3, c3, f4, c4, f5, c5, f6, c6, f7, c7]
    exact hK undef _ ⟨((((((((hb.set 0 _).set 1 _).set 2 _).set 3 _).set 4 _).set 5 _).set 6 _).set 7 _), h0, h1, h3, h4, h6, h7, X, cX, Y, cY, Z, cZ, fun l => ⟨(hX l).1, (kcFar (kcFar (kcFar (kcFar (kcFar (kcFar (kcFar (kcFar (hX l).2.1 (hX l).2.2.1) (hX l).2.2.1) (hX l).2.2.1) (hX l).2.2.1) (hX l).2.2.1) (hX l).2.2.1) (hX l).2.2.1) (hX l).2.2.1), (hX l).2.2⟩, fun l => ⟨(hY l).1, (kaFar (kaFar (kaFar (kaFar (kaFar (kaFar (kaFar (kaFar (hY l).2.1 (hY l).2.2) (hY l).2.2) (hY l).2.2) (hY l).2.2) (hY l).2.2) (hY l).2.2) (hY l).2.2) (hY l).2.2), (hY l).2.2⟩, fun l => ⟨(hZ l).1, (kaFar (kaFar (kaFar (kaFar (kaFar (kaFar (kaFar (kaFar (hZ l).2.1 (hZ l).2.2) (hZ l).2.2) (hZ l).2.2) (hZ l).2.2) (hZ l).2.2) (hZ l).2.2) (hZ l).2.2) (hZ l).2.2), (hZ l).2.2⟩, hL9, fun _ => ⟨l9, hw⟩⟩) <| allOps_nil) (fun L V V1 hall hJ => ?_)
  obtain ⟨hb, -, -, -, -, -, -, X, cX, Y, cY, Z, cZ, hX, hY, hZ, -, hL10⟩ := hJ
  obtain ⟨-, r0, r1, r2, r3, r4, r5, r6, r7⟩ := hL10 (hall 10 (by kernel_rfl))
  obtain ⟨-, kX, -, gX⟩ := hX (hall 2 (by kernel_rfl))
  obtain ⟨-, kY, -⟩ := hY (hall 5 (by kernel_rfl))
  obtain ⟨-, kZ, -⟩ := hZ (hall 8 (by kernel_rfl))
  simp only [mc0, maskPut, Nat.reduceAdd]
  go_wp2_with fail
  refine bodyPost_ret (v := .agg #[.int .i64 ux, .int .i64 uy, .int .i64 uz, .slice X n cX, .slice Y na cY, .int .i64 da, .slice Z nb cZ, .int .i64 db]) (by simp [results, Tryz.results14, go_sem, r0, r1, r2, r3, r4, r5, r6, r7]) rfl ⟨X, cX, Y, cY, Z, cZ, rfl, kX, gX, kY, kZ, hb.bel⟩
end Go.Proofs.YtjncjoaohonmjaaGreat
