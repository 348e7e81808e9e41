/- Helpers: rows of stops with what is left to travel from each; the least travel from each stop. -/
import Derived.Test.YtolondcbllkimaaR
import Derived.Test.YtolondcbllkimaaR2
import Derived.Test.YtolondcbllkimaaQ4
namespace Go.Proofs.Ytolondcbllkimaa
open Go.RowKit Go.Shelf Go.Sort
def sA : Value → Option Addr
  | .slice A _ _ => A
  | _ => none
def sC : Value → Nat
  | .slice _ _ c => c
  | _ => 0
def sG (v : Value) : Nat := ((sA v).map Addr.block).getD 0
theorem own_parts {w : World} {base e sz n : Nat} {v : Value} {xs : List Value} (h : w.ownsRow base e sz v n xs) : v = .slice (sA v) n (sC v) ∧ (0 < n → sA v = some ⟨sG v, 0, none⟩ ∧ v.ownBlock = some (sG v)) := by
  rcases h.2 with ⟨rfl, rfl⟩ | ⟨g, cap, cur, rfl, _⟩
  · exact ⟨rfl, fun h => absurd h (Nat.lt_irrefl 0)⟩
  · exact ⟨rfl, fun _ => ⟨rfl, rfl⟩⟩
theorem cell_ne {w : World} {b o b' o' : Nat} {u v : Value} (h : w.cell? ⟨b, o, none⟩ = some v) (hn : b' = b → o' = o → False) : (w.setCell ⟨b', o', none⟩ u).cell? ⟨b, o, none⟩ = some v :=
  (World.cell?_setCell_other w ⟨b', o', none⟩ ⟨b, o, none⟩ u (fun e => hn (congrArg Addr.block e) (congrArg Addr.off e))).trans h
theorem frozen_own {w1 : World} {base e sz g n c : Nat} {xs : List Value} (h : w1.ownsRow base e sz (.slice (some ⟨g, 0, none⟩) n c) n xs) (i : Nat) : w1.frozen? ⟨g, i, none⟩ = false := by
  rcases h.2 with ⟨h0, _⟩ | ⟨g', cap, cur, h0, _, hg, _⟩
  · simp at h0
  · simp at h0
    obtain ⟨rfl, _⟩ := h0
    simp [World.frozen?, hg]
/-- n rows of stops: the block S holds their row values; row i has kk i stops a i j, each with what is left to travel from it, r i j. -/
def RR (W : World) (S n : Nat) (A : Nat → Option Addr) (c kk g : Nat → Nat) (a r : Nat → Nat → Int) : Prop :=
  (∀ i, i < n → W.cell? ⟨S, i, none⟩ = some (.slice (A i) (kk i) (c i))) ∧
  (∀ i, i < n → 0 < kk i → A i = some ⟨g i, 0, none⟩ ∧ S < g i ∧ ∀ j, j < kk i → W.cell? ⟨g i, 0 + j * 2, none⟩ = some (.int .i64 (a i j)) ∧ W.cell? ⟨g i, 0 + j * 2 + 1, none⟩ = some (.int .i64 (r i j)) ∧ W.frozen? ⟨g i, 0 + j * 2 + 1, none⟩ = false) ∧
  (∀ i j, i < j → j < n → 0 < kk i → 0 < kk j → g i < g j)
theorem RR.of_rows {W : World} {S n : Nat} {e : TypeId} {t : Int} {row : Nat → Int × Nat} {vs : Nat → Value} (h : Rows W S n e t row vs) :
    RR W S n (fun i => sA (vs i)) (fun i => sC (vs i)) (fun i => (row i).2) (fun i => sG (vs i)) (fun i j => (row i).1 + t * j) (fun _ _ => 0) := by
  obtain ⟨h1, h2, h3⟩ := h
  refine ⟨fun i hi => (h1 i hi).trans (congrArg some (own_parts (h2 i hi)).1), fun i hi h0 => ?_, fun i j hij hj h0 h0' => ?_⟩
  · obtain ⟨e1, e2⟩ := own_parts (h2 i hi)
    obtain ⟨e3, e4⟩ := e2 h0
    have ho := h2 i hi
    refine ⟨e3, (ho.lt _ e4).1, fun j hj => ?_⟩
    rw [e1, e3] at ho
    obtain ⟨q1, q2⟩ := own_get ho j hj
    exact ⟨q1, q2, frozen_own ho _⟩
  · exact h3 i j hij hj _ _ ((own_parts (h2 i (by omega))).2 h0).2 ((own_parts (h2 j hj)).2 h0').2
theorem RR.below {W W' : World} {S n : Nat} {A : Nat → Option Addr} {c kk g : Nat → Nat} {a r : Nat → Nat → Int} (h : RR W S n A c kk g a r) (hb : Below W.heap.size W W') : RR W' S n A c kk g a r := by
  obtain ⟨h1, h2, h3⟩ := h
  refine ⟨fun i hi => keep hb (h1 i hi), fun i hi h0 => ?_, h3⟩
  obtain ⟨e1, e2, e3⟩ := h2 i hi h0
  refine ⟨e1, e2, fun j hj => ?_⟩
  obtain ⟨q1, q2, q3⟩ := e3 j hj
  exact ⟨keep hb q1, keep hb q2, (hb.frozen (p := ⟨g i, 0 + j * 2 + 1, none⟩) (lt_of q2)).trans q3⟩
theorem RR.congr {W : World} {S n : Nat} {A : Nat → Option Addr} {c kk g : Nat → Nat} {a r r' : Nat → Nat → Int} (h : RR W S n A c kk g a r) (he : ∀ i j, i < n → j < kk i → r i j = r' i j) : RR W S n A c kk g a r' := by
  obtain ⟨h1, h2, h3⟩ := h
  refine ⟨h1, fun i hi h0 => ?_, h3⟩
  obtain ⟨e1, e2, e3⟩ := h2 i hi h0
  refine ⟨e1, e2, fun j hj => ?_⟩
  obtain ⟨q1, q2, q3⟩ := e3 j hj
  exact ⟨q1, by rw [← he i j hi hj]; exact q2, q3⟩
theorem RR.set {W : World} {S n : Nat} {A : Nat → Option Addr} {c kk g : Nat → Nat} {a r r' : Nat → Nat → Int} (h : RR W S n A c kk g a r) {i j : Nat} {v : Int} (hi : i < n) (hj : j < kk i)
    (hv : r' i j = v) (he : ∀ i' j', ¬ (i' = i ∧ j' = j) → r' i' j' = r i' j') : RR (W.setCell ⟨g i, 0 + j * 2 + 1, none⟩ (.int .i64 v)) S n A c kk g a r' := by
  obtain ⟨h1, h2, h3⟩ := h
  obtain ⟨_, s0, c0⟩ := h2 i hi (by omega)
  refine ⟨fun i' hi' => ?_, fun i' hi' h0 => ?_, h3⟩
  · exact cell_ne (h1 i' hi') (by omega)
  · obtain ⟨e1, e2, e3⟩ := h2 i' hi' h0
    refine ⟨e1, e2, fun j' hj' => ?_⟩
    obtain ⟨q1, q2, q3⟩ := e3 j' hj'
    have hne : ¬ (i' = i) → g i' ≠ g i := by
      intro hx
      rcases Nat.lt_or_gt_of_ne hx with hlt | hlt
      · have := h3 i' i hlt hi h0 (by omega); omega
      · have := h3 i i' hlt hi' (by omega) h0; omega
    refine ⟨?_, ?_, by rw [World.frozen?_setCell]; exact q3⟩
    · exact cell_ne q1 (by omega)
    · by_cases hx : i' = i ∧ j' = j
      · obtain ⟨rfl, rfl⟩ := hx
        rw [hv]
        exact World.cell?_setCell_same W _ _ q2
      · rw [he i' j' hx]
        refine cell_ne q2 (fun eb eo => ?_)
        by_cases hi2 : i' = i
        · exact hx ⟨hi2, by omega⟩
        · exact hne hi2 eb.symm
/-- What is left to travel from the stops of the row that has d rows behind it. -/
def rst (ra : Int) (n : Nat) (kk : Nat → Nat) (a : Nat → Nat → Int) : Nat → Nat → Int
  | 0 => fun _ => 0
  | d + 1 => fun j => mr ra (a (n - 1 - (d + 1)) j) (a (n - 1 - d)) (rst ra n kk a d) (kk (n - 1 - d))
def RE (ra : Int) (n : Nat) (kk : Nat → Nat) (a : Nat → Nat → Int) (i j : Nat) : Int := rst ra n kk a (n - 1 - i) j
theorem RE_last (ra : Int) {n : Nat} (kk : Nat → Nat) (a : Nat → Nat → Int) {i : Nat} (h : n ≤ i + 1) (j : Nat) : RE ra n kk a i j = 0 := by
  unfold RE
  rw [show n - 1 - i = 0 by omega]
  rfl
theorem RE_step (ra : Int) {n : Nat} (kk : Nat → Nat) (a : Nat → Nat → Int) {i : Nat} (h : i + 1 < n) (j : Nat) : RE ra n kk a i j = mr ra (a i j) (a (i + 1)) (RE ra n kk a (i + 1)) (kk (i + 1)) := by
  unfold RE
  rw [show n - 1 - i = (n - 1 - (i + 1)) + 1 by omega]
  show mr ra (a (n - 1 - (n - 1 - (i + 1) + 1)) j) (a (n - 1 - (n - 1 - (i + 1)))) _ (kk (n - 1 - (n - 1 - (i + 1)))) = _
  rw [show n - 1 - (n - 1 - (i + 1) + 1) = i by omega, show n - 1 - (n - 1 - (i + 1)) = i + 1 by omega]
theorem tv_bd {ra fr a r B : Int} (_ : 0 ≤ B) (h1 : -1 ≤ r) (h2 : r ≤ B) : -1 ≤ tv ra fr a r ∧ (tv ra fr a r ≤ B + ra ∨ tv ra fr a r = -1) := by
  have := siz_nn (a - fr)
  unfold tv
  split <;> omega
theorem mr_bd {ra fr B : Int} {a r : Nat → Int} {n : Nat} (h0 : 0 ≤ B) (h : ∀ k, k < n → -1 ≤ r k ∧ r k ≤ B) : -1 ≤ mr ra fr a r n ∧ (mr ra fr a r n ≤ B + ra ∨ mr ra fr a r n = -1) := by
  induction n with
  | zero => simp [mr]
  | succ n ih =>
    have i1 := ih (fun k hk => h k (by omega))
    have i2 := tv_bd (ra := ra) (fr := fr) (a := a n) h0 (h n (by omega)).1 (h n (by omega)).2
    simp only [mr, mrStep]
    split <;> omega
theorem rst_bd {ra : Int} {n : Nat} {kk : Nat → Nat} {a : Nat → Nat → Int} (h0 : 0 ≤ ra) (h1 : ra ≤ 40000) (d j : Nat) : -1 ≤ rst ra n kk a d j ∧ rst ra n kk a d j ≤ 40000 * d := by
  induction d generalizing j with
  | zero => simp [rst]
  | succ d ih =>
    have := mr_bd (ra := ra) (fr := a (n - 1 - (d + 1)) j) (a := a (n - 1 - d)) (r := rst ra n kk a d) (n := kk (n - 1 - d)) (B := 40000 * d) (by omega) (fun k _ => ih k)
    show -1 ≤ mr ra (a (n - 1 - (d + 1)) j) (a (n - 1 - d)) (rst ra n kk a d) (kk (n - 1 - d)) ∧ mr ra (a (n - 1 - (d + 1)) j) (a (n - 1 - d)) (rst ra n kk a d) (kk (n - 1 - d)) ≤ _
    omega
theorem RE_bd {ra : Int} {n : Nat} {kk : Nat → Nat} {a : Nat → Nat → Int} (hn : n ≤ 64) (h0 : 0 ≤ ra) (h1 : ra ≤ 40000) (i j : Nat) : -1 ≤ RE ra n kk a i j ∧ RE ra n kk a i j ≤ 100000000 := by
  have := rst_bd (n := n) (kk := kk) (a := a) h0 h1 (n - 1 - i) j
  unfold RE
  omega
theorem RR.row {W : World} {S n : Nat} {A : Nat → Option Addr} {c kk g : Nat → Nat} {a r : Nat → Nat → Int} (h : RR W S n A c kk g a r) {i : Nat} (hi : i < n) : 0 < kk i → A i = some ⟨g i, 0, none⟩ ∧ ∀ j, j < kk i → W.cell? ⟨g i, 0 + j * 2, none⟩ = some (.int .i64 (a i j)) ∧ W.cell? ⟨g i, 0 + j * 2 + 1, none⟩ = some (.int .i64 (r i j)) := fun h0 => by
  obtain ⟨e1, _, e3⟩ := h.2.1 i hi h0
  exact ⟨e1, fun j hj => ⟨(e3 j hj).1, (e3 j hj).2.1⟩⟩
set_option maxRecDepth 100000 in
set_option maxHeartbeats 800000 in
theorem minimumRest_0 (t lo hi st ra fr : Int) (A : Option Addr) (c : Nat) (w : World) :
    Calls Try.prog 112 #[.agg #[.int .i64 t, .int .i64 lo, .int .i64 hi, .int .i64 st, .int .i64 ra], .int .i64 fr, .slice A 0 c] w fun e w' => e = .returned (.int .i64 (-1)) ∧ Below w.heap.size w w' := by
  go_enter Try.func112, Try.ntmps112
  go_wp2_with fail
  go_loopw [7, 13] (fun s7 i wr => i = .int .i64 0 ∧ s7 = .int .i64 (-1) ∧ Below w.heap.size w wr) (fun _ i _ => 0)
  case atStart => exact ⟨rfl, rfl, by (repeat (first | with_reducible exact Below.refl _ _ | with_reducible assumption | with_reducible refine Below.alloc ?_ (by first | (simp; done) | (simp; omega) | omega) _ | with_reducible refine Below.setCell ?_ (by first | (simp; done) | (simp; omega) | omega) _ | with_reducible refine Below.drew ?_ | with_reducible refine below_drewN ?_ _))⟩
  case round =>
    obtain ⟨rfl, rfl, hbel⟩ := hrel
    go_wp2
    go_ret
    exact ⟨rfl, hbel⟩
theorem minimumRest_any (t lo hi st ra fr : Int) (A : Option Addr) (g n c : Nat) (at_ re : Nat → Int) (w : World) (hn : n ≤ 1000000)
    (hc : 0 < n → A = some ⟨g, 0, none⟩ ∧ ∀ j, j < n → w.cell? ⟨g, 0 + j * 2, none⟩ = some (.int .i64 (at_ j)) ∧ w.cell? ⟨g, 0 + j * 2 + 1, none⟩ = some (.int .i64 (re j)))
    (hr : ∀ i, i < n → (-100000 ≤ at_ i - fr ∧ at_ i - fr ≤ 100000) ∧ (-1 ≤ re i ∧ re i ≤ 100000000)) :
    Calls Try.prog 112 #[.agg #[.int .i64 t, .int .i64 lo, .int .i64 hi, .int .i64 st, .int .i64 ra], .int .i64 fr, .slice A n c] w fun e w' => e = .returned (.int .i64 (mr ra fr at_ re n)) ∧ Below w.heap.size w w' := by
  rcases Nat.eq_zero_or_pos n with h0 | h0
  · subst h0
    exact minimumRest_0 t lo hi st ra fr A c w
  · obtain ⟨rfl, hc2⟩ := hc h0
    exact minimumRest_m t lo hi st ra fr g 0 n c at_ re w hn (lt_of (hc2 0 h0).1) hc2 hr
end Go.Proofs.Ytolondcbllkimaa
