/- Helpers: the contract of checkKnot, all ways. -/
import Derived.Test.YtolondcbllkimaaC
namespace Go.Proofs.Ytolondcbllkimaa
open Go.RowKit Go.Shelf Go.Sort
attribute [local go_sem] idx3_0 idx3_1 idx3_2 old1 fro1 old2 fro2 old3 fro3 old4 fro4 old5 fro5 old6 fro6 old7 fro7 old8 fro8 old9 fro9 old10 fro10 old11 fro11 old12 fro12
set_option maxRecDepth 100000 in
set_option maxHeartbeats 800000 in
theorem checkKnot_r (b off n c i : Nat) (w : World) (t1 x1 y1 z1 _ _ _ _ : Int) (hi : i < n) (_ : n ≤ 100) (_ : b < w.heap.size) (c1 : w.cell? ⟨b, off + i * 4, none⟩ = some (.int .i64 t1)) (c2 : w.cell? ⟨b, off + i * 4 + 1, none⟩ = some (.int .i64 x1)) (c3 : w.cell? ⟨b, off + i * 4 + 2, none⟩ = some (.int .i64 y1)) (c4 : w.cell? ⟨b, off + i * 4 + 3, none⟩ = some (.int .i64 z1)) (h : wi t1 0 1000000000000 = false) :
    Calls Try.prog 44 #[.slice (some ⟨b, off, none⟩) n c, .int .i64 i] w fun e w' => e = .returned (.int .i64 2) ∧ Below w.heap.size w w' := by
  go_enter Try.func44, Try.ntmps44
  go_wp2_with (first | (go_at_call 81; refine (components_any _ _ _ _).mono ?_; rintro e w1 ⟨rfl, o1, o2, rfl⟩) | (go_at_call 45; refine (within_any _ _ _ _).mono ?_; rintro e w' ⟨rfl, rfl⟩) | (go_at_call 82; refine (exceeds_any _ _ _ _ _ (by omega) (by omega)).mono ?_; rintro e w2 ⟨rfl, o1, o2, rfl⟩))
  go_ret
  exact ⟨rfl, by (repeat (first | with_reducible exact Below.refl _ _ | with_reducible assumption | with_reducible refine Below.alloc ?_ (by first | (simp; done) | (simp; omega) | omega) _ | with_reducible refine Below.setCell ?_ (by first | (simp; done) | (simp; omega) | omega) _ | with_reducible refine Below.drew ?_ | with_reducible refine below_drewN ?_ _))⟩
set_option maxRecDepth 100000 in
set_option maxHeartbeats 800000 in
theorem checkKnot_x (b off n c i : Nat) (w : World) (t1 x1 y1 z1 _ _ _ _ : Int) (hi : i < n) (_ : n ≤ 100) (_ : b < w.heap.size) (c1 : w.cell? ⟨b, off + i * 4, none⟩ = some (.int .i64 t1)) (c2 : w.cell? ⟨b, off + i * 4 + 1, none⟩ = some (.int .i64 x1)) (c3 : w.cell? ⟨b, off + i * 4 + 2, none⟩ = some (.int .i64 y1)) (c4 : w.cell? ⟨b, off + i * 4 + 3, none⟩ = some (.int .i64 z1)) (h : wi t1 0 1000000000000 = true) (h2 : exc x1 y1 z1 1000000 = true) :
    Calls Try.prog 44 #[.slice (some ⟨b, off, none⟩) n c, .int .i64 i] w fun e w' => e = .returned (.int .i64 2) ∧ Below w.heap.size w w' := by
  go_enter Try.func44, Try.ntmps44
  go_wp2_with (first | (go_at_call 81; refine (components_any _ _ _ _).mono ?_; rintro e w1 ⟨rfl, o1, o2, rfl⟩) | (go_at_call 45; refine (within_any _ _ _ _).mono ?_; rintro e w' ⟨rfl, rfl⟩) | (go_at_call 82; refine (exceeds_any _ _ _ _ _ (by omega) (by omega)).mono ?_; rintro e w2 ⟨rfl, o1, o2, rfl⟩))
  go_ret
  exact ⟨rfl, by (repeat (first | with_reducible exact Below.refl _ _ | with_reducible assumption | with_reducible refine Below.alloc ?_ (by first | (simp; done) | (simp; omega) | omega) _ | with_reducible refine Below.setCell ?_ (by first | (simp; done) | (simp; omega) | omega) _ | with_reducible refine Below.drew ?_ | with_reducible refine below_drewN ?_ _))⟩
set_option maxRecDepth 100000 in
set_option maxHeartbeats 800000 in
theorem checkKnot_z (b off n c i : Nat) (w : World) (t1 x1 y1 z1 _ _ _ _ : Int) (hi : i < n) (_ : n ≤ 100) (_ : b < w.heap.size) (c1 : w.cell? ⟨b, off + i * 4, none⟩ = some (.int .i64 t1)) (c2 : w.cell? ⟨b, off + i * 4 + 1, none⟩ = some (.int .i64 x1)) (c3 : w.cell? ⟨b, off + i * 4 + 2, none⟩ = some (.int .i64 y1)) (c4 : w.cell? ⟨b, off + i * 4 + 3, none⟩ = some (.int .i64 z1)) (h : wi t1 0 1000000000000 = true) (h2 : exc x1 y1 z1 1000000 = false) (h0 : i = 0) :
    Calls Try.prog 44 #[.slice (some ⟨b, off, none⟩) n c, .int .i64 i] w fun e w' => e = .returned (.int .i64 0) ∧ Below w.heap.size w w' := by
  have hz : ((i : Int) == 0) = true := by simp [h0]
  clear h0
  go_enter Try.func44, Try.ntmps44
  go_wp2_with (first | (go_at_call 81; refine (components_any _ _ _ _).mono ?_; rintro e w1 ⟨rfl, o1, o2, rfl⟩) | (go_at_call 45; refine (within_any _ _ _ _).mono ?_; rintro e w' ⟨rfl, rfl⟩) | (go_at_call 82; refine (exceeds_any _ _ _ _ _ (by omega) (by omega)).mono ?_; rintro e w2 ⟨rfl, o1, o2, rfl⟩))
  go_ret
  exact ⟨rfl, by (repeat (first | with_reducible exact Below.refl _ _ | with_reducible assumption | with_reducible refine Below.alloc ?_ (by first | (simp; done) | (simp; omega) | omega) _ | with_reducible refine Below.setCell ?_ (by first | (simp; done) | (simp; omega) | omega) _ | with_reducible refine Below.drew ?_ | with_reducible refine below_drewN ?_ _))⟩
set_option maxRecDepth 100000 in
set_option maxHeartbeats 800000 in
theorem checkKnot_o (b off n c i : Nat) (w : World) (t1 x1 y1 z1 t0 x0 y0 z0 : Int) (hi : i < n) (hn2 : n ≤ 100) (hb : b < w.heap.size) (c1 : w.cell? ⟨b, off + i * 4, none⟩ = some (.int .i64 t1)) (c2 : w.cell? ⟨b, off + i * 4 + 1, none⟩ = some (.int .i64 x1)) (c3 : w.cell? ⟨b, off + i * 4 + 2, none⟩ = some (.int .i64 y1)) (c4 : w.cell? ⟨b, off + i * 4 + 3, none⟩ = some (.int .i64 z1)) (h : wi t1 0 1000000000000 = true) (h2 : exc x1 y1 z1 1000000 = false) (d1 : w.cell? ⟨b, off + (i - 1) * 4, none⟩ = some (.int .i64 t0)) (d2 : w.cell? ⟨b, off + (i - 1) * 4 + 1, none⟩ = some (.int .i64 x0)) (d3 : w.cell? ⟨b, off + (i - 1) * 4 + 2, none⟩ = some (.int .i64 y0)) (d4 : w.cell? ⟨b, off + (i - 1) * 4 + 3, none⟩ = some (.int .i64 z0)) (hi0 : 0 < i) (g1 : 0 ≤ t1) (g2 : t1 ≤ 1000000000000) (g3 : 0 ≤ t0) (g4 : t0 ≤ 1000000000000) (h4 : t1 - t0 ≤ 0) :
    Calls Try.prog 44 #[.slice (some ⟨b, off, none⟩) n c, .int .i64 i] w fun e w' => e = .returned (.int .i64 9) ∧ Below w.heap.size w w' := by
  have hz : ((i : Int) == 0) = false := by simp; omega
  go_enter Try.func44, Try.ntmps44
  go_wp2_with (first | (go_at_call 81; refine (components_any _ _ _ _).mono ?_; rintro e w1 ⟨rfl, o1, o2, rfl⟩) | (go_at_call 45; refine (within_any _ _ _ _).mono ?_; rintro e w' ⟨rfl, rfl⟩) | (go_at_call 82; refine (exceeds_any _ _ _ _ _ (by omega) (by omega)).mono ?_; rintro e w2 ⟨rfl, o1, o2, rfl⟩))
  go_ret
  exact ⟨rfl, by (repeat (first | with_reducible exact Below.refl _ _ | with_reducible assumption | with_reducible refine Below.alloc ?_ (by first | (simp; done) | (simp; omega) | omega) _ | with_reducible refine Below.setCell ?_ (by first | (simp; done) | (simp; omega) | omega) _ | with_reducible refine Below.drew ?_ | with_reducible refine below_drewN ?_ _))⟩
set_option maxRecDepth 100000 in
set_option maxHeartbeats 800000 in
theorem checkKnot_g (b off n c i : Nat) (w : World) (t1 x1 y1 z1 t0 x0 y0 z0 : Int) (hi : i < n) (hn2 : n ≤ 100) (hb : b < w.heap.size) (c1 : w.cell? ⟨b, off + i * 4, none⟩ = some (.int .i64 t1)) (c2 : w.cell? ⟨b, off + i * 4 + 1, none⟩ = some (.int .i64 x1)) (c3 : w.cell? ⟨b, off + i * 4 + 2, none⟩ = some (.int .i64 y1)) (c4 : w.cell? ⟨b, off + i * 4 + 3, none⟩ = some (.int .i64 z1)) (h : wi t1 0 1000000000000 = true) (h2 : exc x1 y1 z1 1000000 = false) (d1 : w.cell? ⟨b, off + (i - 1) * 4, none⟩ = some (.int .i64 t0)) (d2 : w.cell? ⟨b, off + (i - 1) * 4 + 1, none⟩ = some (.int .i64 x0)) (d3 : w.cell? ⟨b, off + (i - 1) * 4 + 2, none⟩ = some (.int .i64 y0)) (d4 : w.cell? ⟨b, off + (i - 1) * 4 + 3, none⟩ = some (.int .i64 z0)) (hi0 : 0 < i) (g1 : 0 ≤ t1) (g2 : t1 ≤ 1000000000000) (g3 : 0 ≤ t0) (g4 : t0 ≤ 1000000000000) (_ : 0 < t1 - t0) (h5 : 10000 < t1 - t0) :
    Calls Try.prog 44 #[.slice (some ⟨b, off, none⟩) n c, .int .i64 i] w fun e w' => e = .returned (.int .i64 14) ∧ Below w.heap.size w w' := by
  have hz : ((i : Int) == 0) = false := by simp; omega
  go_enter Try.func44, Try.ntmps44
  go_wp2_with (first | (go_at_call 81; refine (components_any _ _ _ _).mono ?_; rintro e w1 ⟨rfl, o1, o2, rfl⟩) | (go_at_call 45; refine (within_any _ _ _ _).mono ?_; rintro e w' ⟨rfl, rfl⟩) | (go_at_call 82; refine (exceeds_any _ _ _ _ _ (by omega) (by omega)).mono ?_; rintro e w2 ⟨rfl, o1, o2, rfl⟩))
  go_ret
  exact ⟨rfl, by (repeat (first | with_reducible exact Below.refl _ _ | with_reducible assumption | with_reducible refine Below.alloc ?_ (by first | (simp; done) | (simp; omega) | omega) _ | with_reducible refine Below.setCell ?_ (by first | (simp; done) | (simp; omega) | omega) _ | with_reducible refine Below.drew ?_ | with_reducible refine below_drewN ?_ _))⟩
structure Knot where
  t : Int
  x : Int
  y : Int
  z : Int
def KAt (w : World) (b off n : Nat) (k : Nat → Knot) : Prop :=
  b < w.heap.size ∧ ∀ i, i < n → w.cell? ⟨b, off + i * 4, none⟩ = some (.int .i64 (k i).t) ∧ w.cell? ⟨b, off + i * 4 + 1, none⟩ = some (.int .i64 (k i).x) ∧
    w.cell? ⟨b, off + i * 4 + 2, none⟩ = some (.int .i64 (k i).y) ∧ w.cell? ⟨b, off + i * 4 + 3, none⟩ = some (.int .i64 (k i).z)
theorem KAt.below {w w' : World} {B b off n : Nat} {k : Nat → Knot} (h : KAt w b off n k) (hb : Below B w w') (hB : b < B) : KAt w' b off n k :=
  ⟨Nat.lt_of_lt_of_le h.1 hb.size, fun i hi => by
    rw [hb.cell (p := ⟨b, off + i * 4, none⟩) hB, hb.cell (p := ⟨b, off + i * 4 + 1, none⟩) hB, hb.cell (p := ⟨b, off + i * 4 + 2, none⟩) hB, hb.cell (p := ⟨b, off + i * 4 + 3, none⟩) hB]
    exact h.2 i hi⟩
/-- The knot lies within the limits of the document. -/
def Knot.ok (k : Knot) : Prop := (0 ≤ k.t ∧ k.t ≤ 1000000000000) ∧ (-1000000 ≤ k.x ∧ k.x ≤ 1000000) ∧ (-1000000 ≤ k.y ∧ k.y ≤ 1000000) ∧ (-1000000 ≤ k.z ∧ k.z ≤ 1000000)
instance (k : Knot) : Decidable k.ok := by unfold Knot.ok; infer_instance
def knotErr (k : Nat → Knot) (i : Nat) : Int :=
  if ¬ (k i).ok then 2 else if i = 0 then 0 else if (k i).t - (k (i - 1)).t ≤ 0 then 9 else if 10000 < (k i).t - (k (i - 1)).t then 14
  else brk ((k i).t - (k (i - 1)).t) (psum (k i).x (k i).y (k i).z (k (i - 1)).x (k (i - 1)).y (k (i - 1)).z 3)
theorem exc_f {x y z l : Int} : exc x y z l = false ↔ (-l ≤ x ∧ x ≤ l) ∧ (-l ≤ y ∧ y ≤ l) ∧ (-l ≤ z ∧ z ≤ l) := by
  simp [exc, wi, and_assoc]
theorem exc_t {x y z l : Int} (h : ¬ ((-l ≤ x ∧ x ≤ l) ∧ (-l ≤ y ∧ y ≤ l) ∧ (-l ≤ z ∧ z ≤ l))) : exc x y z l = true := by
  cases he : exc x y z l
  · exact absurd (exc_f.1 he) h
  · rfl
theorem checkKnot_any (b off n c i : Nat) (w : World) (k : Nat → Knot) (hi : i < n) (hn2 : n ≤ 100) (hk : KAt w b off n k) (hp : 0 < i → (k (i - 1)).ok) :
    Calls Try.prog 44 #[.slice (some ⟨b, off, none⟩) n c, .int .i64 i] w fun e w' => e = .returned (.int .i64 (knotErr k i)) ∧ Below w.heap.size w w' := by
  obtain ⟨hb, hkk⟩ := hk
  obtain ⟨c1, c2, c3, c4⟩ := hkk i hi
  unfold knotErr
  by_cases hok : (k i).ok
  · rw [if_neg (by simpa using hok)]
    obtain ⟨ht, hx, hy, hz⟩ := hok
    have hw : wi (k i).t 0 1000000000000 = true := wi_t.2 ht
    have he : exc (k i).x (k i).y (k i).z 1000000 = false := exc_f.2 ⟨hx, hy, hz⟩
    by_cases h0 : i = 0
    · rw [if_pos h0]
      exact checkKnot_z b off n c i w _ _ _ _ 0 0 0 0 hi hn2 hb c1 c2 c3 c4 hw he h0
    · rw [if_neg h0]
      obtain ⟨d1, d2, d3, d4⟩ := hkk (i - 1) (by omega)
      obtain ⟨gt, gx, gy, gz⟩ := hp (by omega)
      by_cases h9 : (k i).t - (k (i - 1)).t ≤ 0
      · rw [if_pos h9]
        exact checkKnot_o b off n c i w _ _ _ _ _ _ _ _ hi hn2 hb c1 c2 c3 c4 hw he d1 d2 d3 d4 (by omega) ht.1 ht.2 gt.1 gt.2 h9
      · rw [if_neg h9]
        by_cases h14 : 10000 < (k i).t - (k (i - 1)).t
        · rw [if_pos h14]
          exact checkKnot_g b off n c i w _ _ _ _ _ _ _ _ hi hn2 hb c1 c2 c3 c4 hw he d1 d2 d3 d4 (by omega) ht.1 ht.2 gt.1 gt.2 (by omega) h14
        · rw [if_neg h14]
          exact checkKnot_1 b off n c i w _ _ _ _ _ _ _ _ hi hn2 hb (by omega) hw he c1 c2 c3 c4 d1 d2 d3 d4 ht.1 ht.2 gt.1 gt.2 (by omega) (by omega) hx.1 hx.2 gx.1 gx.2 hy.1 hy.2 gy.1 gy.2 hz.1 hz.2 gz.1 gz.2
  · rw [if_pos (by simpa using hok)]
    cases hw : wi (k i).t 0 1000000000000
    · exact checkKnot_r b off n c i w _ _ _ _ 0 0 0 0 hi hn2 hb c1 c2 c3 c4 hw
    · refine checkKnot_x b off n c i w _ _ _ _ 0 0 0 0 hi hn2 hb c1 c2 c3 c4 hw (exc_t fun h => hok ⟨wi_t.1 hw, h.1, h.2.1, h.2.2⟩)
end Go.Proofs.Ytolondcbllkimaa
