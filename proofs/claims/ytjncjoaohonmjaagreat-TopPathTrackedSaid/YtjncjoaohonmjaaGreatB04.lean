/- Helpers: the contract of checkKnot, all ways. -/
import Derived.Test.YtjncjoaohonmjaaGreatB03
import Derived.Test.YtjncjoaohonmjaaGreatB02
namespace Go.Proofs.YtjncjoaohonmjaaGreat
open Go.RowKit Go.Shelf Go.Sort
attribute [local go_sem] idx3_0 idx3_1 idx3_2 old1 fro1 old2 fro2 old3 fro3 old4 fro4 old5 fro5 old6 fro6 old7 fro7 old8 fro8 old9 fro9 old10 fro10 old11 fro11 old12 fro12
set_option maxRecDepth 100000 in
set_option maxHeartbeats 800000 in
theorem checkKnot_r (b off n c i : Nat) (w : World) (t1 x1 y1 z1 _ _ _ _ : Int) (hi : i < n) (_ : n ≤ 100) (_ : b < w.heap.size) (c1 : w.cell? ⟨b, off + i * 4, none⟩ = some (.int .i64 t1)) (c2 : w.cell? ⟨b, off + i * 4 + 1, none⟩ = some (.int .i64 x1)) (c3 : w.cell? ⟨b, off + i * 4 + 2, none⟩ = some (.int .i64 y1)) (c4 : w.cell? ⟨b, off + i * 4 + 3, none⟩ = some (.int .i64 z1)) (h : wi t1 0 1000000000000 = false) :
    Calls Tryz.prog 103 #[.slice (some ⟨b, off, none⟩) n c, .int .i64 i] w fun e w' => e = .returned (.int .i64 2) ∧ Below w.heap.size w w' := by
  go_enter Tryz.func103, Tryz.ntmps103
  go_wp2_with (first | (go_at_call 71; refine (components_any _ _ _ _).mono ?_; rintro e w1 ⟨rfl, o1, o2, rfl⟩) | (go_at_call 48; refine (within_any _ _ _ _).mono ?_; rintro e w' ⟨rfl, rfl⟩) | (go_at_call 117; refine (exceeds_any _ _ _ _ _ (by omega) (by omega)).mono ?_; rintro e w2 ⟨rfl, o1, o2, rfl⟩))
  go_ret
  exact ⟨rfl, by (repeat (first | with_reducible exact Below.refl _ _ | with_reducible assumption | with_reducible refine Below.alloc ?_ (by first | (simp; done) | (simp; omega) | omega) _ | with_reducible refine Below.setCell ?_ (by first | (simp; done) | (simp; omega) | omega) _ | with_reducible refine Below.drew ?_ | with_reducible refine below_drewN ?_ _))⟩
set_option maxRecDepth 100000 in
set_option maxHeartbeats 800000 in
theorem checkKnot_x (b off n c i : Nat) (w : World) (t1 x1 y1 z1 _ _ _ _ : Int) (hi : i < n) (_ : n ≤ 100) (_ : b < w.heap.size) (c1 : w.cell? ⟨b, off + i * 4, none⟩ = some (.int .i64 t1)) (c2 : w.cell? ⟨b, off + i * 4 + 1, none⟩ = some (.int .i64 x1)) (c3 : w.cell? ⟨b, off + i * 4 + 2, none⟩ = some (.int .i64 y1)) (c4 : w.cell? ⟨b, off + i * 4 + 3, none⟩ = some (.int .i64 z1)) (h : wi t1 0 1000000000000 = true) (h2 : exc x1 y1 z1 1000000 = true) :
    Calls Tryz.prog 103 #[.slice (some ⟨b, off, none⟩) n c, .int .i64 i] w fun e w' => e = .returned (.int .i64 2) ∧ Below w.heap.size w w' := by
  go_enter Tryz.func103, Tryz.ntmps103
  go_wp2_with (first | (go_at_call 71; refine (components_any _ _ _ _).mono ?_; rintro e w1 ⟨rfl, o1, o2, rfl⟩) | (go_at_call 48; refine (within_any _ _ _ _).mono ?_; rintro e w' ⟨rfl, rfl⟩) | (go_at_call 117; refine (exceeds_any _ _ _ _ _ (by omega) (by omega)).mono ?_; rintro e w2 ⟨rfl, o1, o2, rfl⟩))
  go_ret
  exact ⟨rfl, by (repeat (first | with_reducible exact Below.refl _ _ | with_reducible assumption | with_reducible refine Below.alloc ?_ (by first | (simp; done) | (simp; omega) | omega) _ | with_reducible refine Below.setCell ?_ (by first | (simp; done) | (simp; omega) | omega) _ | with_reducible refine Below.drew ?_ | with_reducible refine below_drewN ?_ _))⟩
set_option maxRecDepth 100000 in
set_option maxHeartbeats 800000 in
theorem checkKnot_z (b off n c i : Nat) (w : World) (t1 x1 y1 z1 _ _ _ _ : Int) (hi : i < n) (_ : n ≤ 100) (_ : b < w.heap.size) (c1 : w.cell? ⟨b, off + i * 4, none⟩ = some (.int .i64 t1)) (c2 : w.cell? ⟨b, off + i * 4 + 1, none⟩ = some (.int .i64 x1)) (c3 : w.cell? ⟨b, off + i * 4 + 2, none⟩ = some (.int .i64 y1)) (c4 : w.cell? ⟨b, off + i * 4 + 3, none⟩ = some (.int .i64 z1)) (h : wi t1 0 1000000000000 = true) (h2 : exc x1 y1 z1 1000000 = false) (h0 : i = 0) :
    Calls Tryz.prog 103 #[.slice (some ⟨b, off, none⟩) n c, .int .i64 i] w fun e w' => e = .returned (.int .i64 0) ∧ Below w.heap.size w w' := by
  have hz : ((i : Int) == 0) = true := by simp [h0]
  clear h0
  go_enter Tryz.func103, Tryz.ntmps103
  go_wp2_with (first | (go_at_call 71; refine (components_any _ _ _ _).mono ?_; rintro e w1 ⟨rfl, o1, o2, rfl⟩) | (go_at_call 48; refine (within_any _ _ _ _).mono ?_; rintro e w' ⟨rfl, rfl⟩) | (go_at_call 117; refine (exceeds_any _ _ _ _ _ (by omega) (by omega)).mono ?_; rintro e w2 ⟨rfl, o1, o2, rfl⟩))
  go_ret
  exact ⟨rfl, by (repeat (first | with_reducible exact Below.refl _ _ | with_reducible assumption | with_reducible refine Below.alloc ?_ (by first | (simp; done) | (simp; omega) | omega) _ | with_reducible refine Below.setCell ?_ (by first | (simp; done) | (simp; omega) | omega) _ | with_reducible refine Below.drew ?_ | with_reducible refine below_drewN ?_ _))⟩
set_option maxRecDepth 100000 in
set_option maxHeartbeats 800000 in
theorem checkKnot_o (b off n c i : Nat) (w : World) (t1 x1 y1 z1 t0 x0 y0 z0 : Int) (hi : i < n) (hn2 : n ≤ 100) (hb : b < w.heap.size) (c1 : w.cell? ⟨b, off + i * 4, none⟩ = some (.int .i64 t1)) (c2 : w.cell? ⟨b, off + i * 4 + 1, none⟩ = some (.int .i64 x1)) (c3 : w.cell? ⟨b, off + i * 4 + 2, none⟩ = some (.int .i64 y1)) (c4 : w.cell? ⟨b, off + i * 4 + 3, none⟩ = some (.int .i64 z1)) (h : wi t1 0 1000000000000 = true) (h2 : exc x1 y1 z1 1000000 = false) (d1 : w.cell? ⟨b, off + (i - 1) * 4, none⟩ = some (.int .i64 t0)) (d2 : w.cell? ⟨b, off + (i - 1) * 4 + 1, none⟩ = some (.int .i64 x0)) (d3 : w.cell? ⟨b, off + (i - 1) * 4 + 2, none⟩ = some (.int .i64 y0)) (d4 : w.cell? ⟨b, off + (i - 1) * 4 + 3, none⟩ = some (.int .i64 z0)) (hi0 : 0 < i) (g1 : 0 ≤ t1) (g2 : t1 ≤ 1000000000000) (g3 : 0 ≤ t0) (g4 : t0 ≤ 1000000000000) (h4 : t1 - t0 ≤ 0) :
    Calls Tryz.prog 103 #[.slice (some ⟨b, off, none⟩) n c, .int .i64 i] w fun e w' => e = .returned (.int .i64 9) ∧ Below w.heap.size w w' := by
  have hz : ((i : Int) == 0) = false := by simp; omega
  go_enter Tryz.func103, Tryz.ntmps103
  go_wp2_with (first | (go_at_call 71; refine (components_any _ _ _ _).mono ?_; rintro e w1 ⟨rfl, o1, o2, rfl⟩) | (go_at_call 48; refine (within_any _ _ _ _).mono ?_; rintro e w' ⟨rfl, rfl⟩) | (go_at_call 117; refine (exceeds_any _ _ _ _ _ (by omega) (by omega)).mono ?_; rintro e w2 ⟨rfl, o1, o2, rfl⟩))
  go_ret
  exact ⟨rfl, by (repeat (first | with_reducible exact Below.refl _ _ | with_reducible assumption | with_reducible refine Below.alloc ?_ (by first | (simp; done) | (simp; omega) | omega) _ | with_reducible refine Below.setCell ?_ (by first | (simp; done) | (simp; omega) | omega) _ | with_reducible refine Below.drew ?_ | with_reducible refine below_drewN ?_ _))⟩
set_option maxRecDepth 100000 in
set_option maxHeartbeats 800000 in
theorem checkKnot_g (b off n c i : Nat) (w : World) (t1 x1 y1 z1 t0 x0 y0 z0 : Int) (hi : i < n) (hn2 : n ≤ 100) (hb : b < w.heap.size) (c1 : w.cell? ⟨b, off + i * 4, none⟩ = some (.int .i64 t1)) (c2 : w.cell? ⟨b, off + i * 4 + 1, none⟩ = some (.int .i64 x1)) (c3 : w.cell? ⟨b, off + i * 4 + 2, none⟩ = some (.int .i64 y1)) (c4 : w.cell? ⟨b, off + i * 4 + 3, none⟩ = some (.int .i64 z1)) (h : wi t1 0 1000000000000 = true) (h2 : exc x1 y1 z1 1000000 = false) (d1 : w.cell? ⟨b, off + (i - 1) * 4, none⟩ = some (.int .i64 t0)) (d2 : w.cell? ⟨b, off + (i - 1) * 4 + 1, none⟩ = some (.int .i64 x0)) (d3 : w.cell? ⟨b, off + (i - 1) * 4 + 2, none⟩ = some (.int .i64 y0)) (d4 : w.cell? ⟨b, off + (i - 1) * 4 + 3, none⟩ = some (.int .i64 z0)) (hi0 : 0 < i) (g1 : 0 ≤ t1) (g2 : t1 ≤ 1000000000000) (g3 : 0 ≤ t0) (g4 : t0 ≤ 1000000000000) (_ : 0 < t1 - t0) (h5 : 10000 < t1 - t0) :
    Calls Tryz.prog 103 #[.slice (some ⟨b, off, none⟩) n c, .int .i64 i] w fun e w' => e = .returned (.int .i64 14) ∧ Below w.heap.size w w' := by
  have hz : ((i : Int) == 0) = false := by simp; omega
  go_enter Tryz.func103, Tryz.ntmps103
  go_wp2_with (first | (go_at_call 71; refine (components_any _ _ _ _).mono ?_; rintro e w1 ⟨rfl, o1, o2, rfl⟩) | (go_at_call 48; refine (within_any _ _ _ _).mono ?_; rintro e w' ⟨rfl, rfl⟩) | (go_at_call 117; refine (exceeds_any _ _ _ _ _ (by omega) (by omega)).mono ?_; rintro e w2 ⟨rfl, o1, o2, rfl⟩))
  go_ret
  exact ⟨rfl, by (repeat (first | with_reducible exact Below.refl _ _ | with_reducible assumption | with_reducible refine Below.alloc ?_ (by first | (simp; done) | (simp; omega) | omega) _ | with_reducible refine Below.setCell ?_ (by first | (simp; done) | (simp; omega) | omega) _ | with_reducible refine Below.drew ?_ | with_reducible refine below_drewN ?_ _))⟩
structure Knot where
  t : Int
  x : Int
  y : Int
  z : Int
def KAt (w : World) (b off n : Nat) (k : Nat → Knot) : Prop :=
  b < w.heap.size ∧ ∀ i, i < n → w.cell? ⟨b, off + i * 4, none⟩ = some (.int .i64 (k i).t) ∧ w.cell? ⟨b, off + i * 4 + 1, none⟩ = some (.int .i64 (k i).x) ∧
    w.cell? ⟨b, off + i * 4 + 2, none⟩ = some (.int .i64 (k i).y) ∧ w.cell? ⟨b, off + i * 4 + 3, none⟩ = some (.int .i64 (k i).z)
theorem KAt.below {w w' : World} {B b off n : Nat} {k : Nat → Knot} (h : KAt w b off n k) (hb : Below B w w') (hB : b < B) : KAt w' b off n k :=
  ⟨Nat.lt_of_lt_of_le h.1 hb.size, fun i hi => by
    rw [hb.cell (p := ⟨b, off + i * 4, none⟩) hB, hb.cell (p := ⟨b, off + i * 4 + 1, none⟩) hB, hb.cell (p := ⟨b, off + i * 4 + 2, none⟩) hB, hb.cell (p := ⟨b, off + i * 4 + 3, none⟩) hB]
    exact h.2 i hi⟩
/-- The knot lies within the limits of the document. -/
def Knot.ok (k : Knot) : Prop := (0 ≤ k.t ∧ k.t ≤ 1000000000000) ∧ (-1000000 ≤ k.x ∧ k.x ≤ 1000000) ∧ (-1000000 ≤ k.y ∧ k.y ≤ 1000000) ∧ (-1000000 ≤ k.z ∧ k.z ≤ 1000000)
instance (k : Knot) : Decidable k.ok := by unfold Knot.ok; infer_instance
def knotErr (k : Nat → Knot) (i : Nat) : Int :=
  if ¬ (k i).ok then 2 else if i = 0 then 0 else if (k i).t - (k (i - 1)).t ≤ 0 then 9 else if 10000 < (k i).t - (k (i - 1)).t then 14
  else brk ((k i).t - (k (i - 1)).t) (psum (k i).x (k i).y (k i).z (k (i - 1)).x (k (i - 1)).y (k (i - 1)).z 3)
theorem exc_f {x y z l : Int} : exc x y z l = false ↔ (-l ≤ x ∧ x ≤ l) ∧ (-l ≤ y ∧ y ≤ l) ∧ (-l ≤ z ∧ z ≤ l) := by
  simp [exc, wi, and_assoc]
theorem exc_t {x y z l : Int} (h : ¬ ((-l ≤ x ∧ x ≤ l) ∧ (-l ≤ y ∧ y ≤ l) ∧ (-l ≤ z ∧ z ≤ l))) : exc x y z l = true := by
  cases he : exc x y z l
  · exact absurd (exc_f.1 he) h
  · rfl
theorem checkKnot_any (b off n c i : Nat) (w : World) (k : Nat → Knot) (hi : i < n) (hn2 : n ≤ 100) (hk : KAt w b off n k) (hp : 0 < i → (k (i - 1)).ok) :
    Calls Tryz.prog 103 #[.slice (some ⟨b, off, none⟩) n c, .int .i64 i] w fun e w' => e = .returned (.int .i64 (knotErr k i)) ∧ Below w.heap.size w w' := by
  obtain ⟨hb, hkk⟩ := hk
  obtain ⟨c1, c2, c3, c4⟩ := hkk i hi
  unfold knotErr
  by_cases hok : (k i).ok
  · rw [if_neg (by simpa using hok)]
    obtain ⟨ht, hx, hy, hz⟩ := hok
    have hw : wi (k i).t 0 1000000000000 = true := wi_t.2 ht
    have he : exc (k i).x (k i).y (k i).z 1000000 = false := exc_f.2 ⟨hx, hy, hz⟩
    by_cases h0 : i = 0
    · rw [if_pos h0]
      exact checkKnot_z b off n c i w _ _ _ _ 0 0 0 0 hi hn2 hb c1 c2 c3 c4 hw he h0
    · rw [if_neg h0]
      obtain ⟨d1, d2, d3, d4⟩ := hkk (i - 1) (by omega)
      obtain ⟨gt, gx, gy, gz⟩ := hp (by omega)
      by_cases h9 : (k i).t - (k (i - 1)).t ≤ 0
      · rw [if_pos h9]
        exact checkKnot_o b off n c i w _ _ _ _ _ _ _ _ hi hn2 hb c1 c2 c3 c4 hw he d1 d2 d3 d4 (by omega) ht.1 ht.2 gt.1 gt.2 h9
      · rw [if_neg h9]
        by_cases h14 : 10000 < (k i).t - (k (i - 1)).t
        · rw [if_pos h14]
          exact checkKnot_g b off n c i w _ _ _ _ _ _ _ _ hi hn2 hb c1 c2 c3 c4 hw he d1 d2 d3 d4 (by omega) ht.1 ht.2 gt.1 gt.2 (by omega) h14
        · rw [if_neg h14]
          exact checkKnot_1 b off n c i w _ _ _ _ _ _ _ _ hi hn2 hb (by omega) hw he c1 c2 c3 c4 d1 d2 d3 d4 ht.1 ht.2 gt.1 gt.2 (by omega) (by omega) hx.1 hx.2 gx.1 gx.2 hy.1 hy.2 gy.1 gy.2 hz.1 hz.2 gz.1 gz.2
  · rw [if_pos (by simpa using hok)]
    cases hw : wi (k i).t 0 1000000000000
    · exact checkKnot_r b off n c i w _ _ _ _ 0 0 0 0 hi hn2 hb c1 c2 c3 c4 hw
    · refine checkKnot_x b off n c i w _ _ _ _ 0 0 0 0 hi hn2 hb c1 c2 c3 c4 hw (exc_t fun h => hok ⟨wi_t.1 hw, h.1, h.2.1, h.2.2⟩)
end Go.Proofs.YtjncjoaohonmjaaGreat
namespace Go.Proofs.YtjncjoaohonmjaaGreat
open Go.RowKit Go.Shelf Go.Sort
attribute [local go_sem] idx3_0 idx3_1 idx3_2 old1 fro1 old2 fro2 old3 fro3 old4 fro4 old5 fro5 old6 fro6 old7 fro7 old8 fro8 old9 fro9 old10 fro10 old11 fro11 old12 fro12
def mh0 : List Bool := [false, false, false, false, false, false, true, false, false, false, false, false, false, false, false, false, false, false, false, false, false, false, true, true, true, true, true, true, true, true, true, true, true, true, true, true, true, true]
def ax2 (c : Cone) : Int := c.x * c.x + c.y * c.y + c.z * c.z
/-- a vector with the product p with the axis, of the square L of its length, lies in the cone -/
def hid (c : Cone) (p L : Int) : Bool := decide (0 < p) && decide (L * (c.u * ax2 c) < p * p * c.d)
theorem sqB (x : Int) (h1 : -9223372036854775807 ≤ x) (h2 : x ≤ 9223372036854775807) (w : World) :
    Calls Tryz.prog 108 #[.int .i64 x] w fun e w' => e = .returned (.agg #[.int .u64 (sqh (x * x)), .int .u64 (sql (x * x))]) ∧ Below w.heap.size w w' :=
  (squareOf_any x h1 h2 w).mono (by rintro e w' ⟨rfl, o1, rfl⟩; exact ⟨rfl, by (repeat (first | with_reducible exact Below.refl _ _ | with_reducible assumption | with_reducible refine Below.alloc ?_ (by first | (simp; done) | (simp; omega) | omega) _ | with_reducible refine Below.setCell ?_ (by first | (simp; done) | (simp; omega) | omega) _ | with_reducible refine Below.drew ?_ | with_reducible refine below_drewN ?_ _))⟩)
theorem lessB (a b : Int) (w : World) :
    Calls Tryz.prog 99 #[.agg #[.int .u64 (sqh a), .int .u64 (sql a)], .agg #[.int .u64 (sqh b), .int .u64 (sql b)]] w fun e w' => e = .returned (.bool (decide (a < b))) ∧ Below w.heap.size w w' :=
  (less_any a b w).mono (by rintro e w' ⟨rfl, q, o1, o2, rfl⟩; exact ⟨rfl, below_drewN (by (repeat (first | with_reducible exact Below.refl _ _ | with_reducible assumption | with_reducible refine Below.alloc ?_ (by first | (simp; done) | (simp; omega) | omega) _ | with_reducible refine Below.setCell ?_ (by first | (simp; done) | (simp; omega) | omega) _ | with_reducible refine Below.drew ?_ | with_reducible refine below_drewN ?_ _))) q⟩)
theorem cone_ok {c : Cone} (h : coneErr c = 0) : ((-100 ≤ c.x ∧ c.x ≤ 100) ∧ (-100 ≤ c.y ∧ c.y ≤ 100) ∧ (-100 ≤ c.z ∧ c.z ≤ 100)) ∧ (1 ≤ c.d ∧ c.d ≤ 100) ∧ 0 ≤ c.u ∧ c.u ≤ c.d := by
  unfold coneErr at h
  by_cases ha : axErr c.x c.y c.z = 0
  · rw [if_pos ha] at h
    unfold axErr at ha
    cases he : exc c.x c.y c.z 100 with
    | true => rw [he, if_pos rfl] at ha; cases ha
    | false =>
      have hx := exc_f.1 he
      cases hd : (wi c.d 1 100 && wi c.u 0 c.d) with
      | false => rw [hd] at h; cases h
      | true =>
        rw [Bool.and_eq_true] at hd
        exact ⟨hx, wi_t.1 hd.1, wi_t.1 hd.2⟩
  · rw [if_neg ha] at h
    exact absurd h ha
theorem ax2_bd {c : Cone} (h : coneErr c = 0) : 0 ≤ ax2 c ∧ ax2 c ≤ 30000 := by
  obtain ⟨⟨⟨x1, x2⟩, ⟨y1, y2⟩, z1, z2⟩, _⟩ := cone_ok h
  have a := @sq_bd c.x 100 x1 x2
  have b := @sq_bd c.y 100 y1 y2
  have d := @sq_bd c.z 100 z1 z2
  have := sq_nn c.x
  have := sq_nn c.y
  have := sq_nn c.z
  unfold ax2
  omega
def HII (w : World) (c : Cone) (L : Int) (wr : World) : Prop :=
  Below w.heap.size w wr ∧ (wr.cell? ⟨w.heap.size, 3, none⟩ = some (.int .i64 c.u) ∧ wr.cell? ⟨w.heap.size, 4, none⟩ = some (.int .i64 c.d)) ∧ (wr.cell? ⟨w.heap.size + 1, 0, none⟩ = some (.int .u64 (sqh L)) ∧ wr.cell? ⟨w.heap.size + 1, 1, none⟩ = some (.int .u64 (sql L)))
set_option maxRecDepth 100000 in
set_option maxHeartbeats 4000000 in
theorem hides_any (c : Cone) (p L : Int) (w : World) (hc : coneErr c = 0) (b1 : -70000000000000000 ≤ p) (b2 : p ≤ 70000000000000000) (hL0 : 0 ≤ L) (hL1 : L ≤ 150000000000000000000000000000) :
    Calls Tryz.prog 81 #[.agg #[.int .i64 c.x, .int .i64 c.y, .int .i64 c.z, .int .i64 c.u, .int .i64 c.d], .int .i64 p, .agg #[.int .u64 (sqh L), .int .u64 (sql L)]] w fun e w' => e = .returned (.bool (hid c p L)) ∧ Below w.heap.size w w' := by
  obtain ⟨a1, a2⟩ := ax2_bd hc
  obtain ⟨⟨⟨x1, x2⟩, ⟨y1, y2⟩, z1, z2⟩, ⟨d1, d2⟩, u1, u2⟩ := cone_ok hc
  have n0 : 0 ≤ c.u * ax2 c := Int.mul_nonneg u1 a1
  have n9 : c.u * ax2 c ≤ 100 * 30000 := Int.mul_le_mul (by omega) a2 a1 (by omega)
  have n8 : L * (c.u * ax2 c) ≤ 150000000000000000000000000000 * 3000000 := Int.mul_le_mul hL1 (by omega) n0 (by omega)
  have q0 := sq_nn p
  have q9 := @sq_bd p 70000000000000000 b1 b2
  have q8 : p * p * c.d ≤ (70000000000000000 * 70000000000000000) * 100 := Int.mul_le_mul q9 d2 (by omega) (by omega)
  have hid_t : 0 < p → decide (L * (c.u * ax2 c) < p * p * c.d) = hid c p L := fun h => by unfold hid; rw [decide_eq_true h, Bool.true_and]
  have hid_f : ¬ 0 < p → false = hid c p L := fun h => by unfold hid; rw [decide_eq_false h, Bool.false_and]
  generalize hid c p L = hv at *
  unfold ax2 at *
  have n1 : c.u * (c.x * c.x + c.y * c.y + c.z * c.z) ≤ 9223372036854775807 := by omega
  have n2 : L * (c.u * (c.x * c.x + c.y * c.y + c.z * c.z)) < 340282366920938463463374607431768211456 := by omega
  have q1 : 0 ≤ c.d := by omega
  have q2 : c.d ≤ 9223372036854775807 := by omega
  have q3 : p * p * c.d < 340282366920938463463374607431768211456 := by omega
  have m1 : IntKind.i64.wrap (c.u * (c.x * c.x + c.y * c.y + c.z * c.z)) = c.u * (c.x * c.x + c.y * c.y + c.z * c.z) := IntWalk.i64_in _ (by omega)
  have sx := @sq_bd c.x 100 x1 x2
  have sy := @sq_bd c.y 100 y1 y2
  have sz := @sq_bd c.z 100 z1 z2
  have tx := sq_nn c.x
  have ty := sq_nn c.y
  have tz := sq_nn c.z
  have w1 : IntKind.i64.wrap (c.x * c.x) = c.x * c.x := IntWalk.i64_in _ (by omega)
  have w2 : IntKind.i64.wrap (c.y * c.y) = c.y * c.y := IntWalk.i64_in _ (by omega)
  have w3 : IntKind.i64.wrap (c.z * c.z) = c.z * c.z := IntWalk.i64_in _ (by omega)
  have w4 : IntKind.i64.wrap (0 + c.x * c.x) = c.x * c.x := by rw [Int.zero_add]; exact w1
  have w5 : IntKind.i64.wrap (c.x * c.x + c.y * c.y) = c.x * c.x + c.y * c.y := IntWalk.i64_in _ (by omega)
  have w6 : IntKind.i64.wrap (c.x * c.x + c.y * c.y + c.z * c.z) = c.x * c.x + c.y * c.y + c.z * c.z := IntWalk.i64_in _ (by omega)
  replace b1 : -9223372036854775807 ≤ p := by omega
  replace b2 : p ≤ 9223372036854775807 := by omega
  clear n8 n9 q8 q9 sx sy sz tx ty tz x1 x2 y1 y2 z1 z2 d1 d2 u1 u2 a1 a2 hc
  go_enter Tryz.func81, Tryz.ntmps81
  go_wp2_with (go_at_call 71; refine (components_any _ _ _ _).mono ?_; rintro e w9 ⟨rfl, o1, o2, rfl⟩)
  go_loopw [7, 13] (fun s7 i wr => ∃ j : Int, 0 ≤ j ∧ j ≤ 3 ∧ i = .int .i64 j ∧ s7 = .int .i64 (part3 (c.x * c.x) (c.y * c.y) (c.z * c.z) j) ∧ HII w c L wr) (fun _ i _ => 3 - (intOf i).toNat)
  case atStart => exact ⟨0, by omega, by omega, rfl, by rw [part3_0], by (repeat (first | with_reducible exact Below.refl _ _ | with_reducible assumption | with_reducible refine Below.alloc ?_ (by first | (simp; done) | (simp; omega) | omega) _ | with_reducible refine Below.setCell ?_ (by first | (simp; done) | (simp; omega) | omega) _ | with_reducible refine Below.drew ?_ | with_reducible refine below_drewN ?_ _)), ⟨by simp [go_sem], by simp [go_sem]⟩, by simp [go_sem], by simp [go_sem]⟩
  case round =>
    obtain ⟨j, hj0, hj, rfl, rfl, hI⟩ := hrel
    rcases (by omega : j = 0 ∨ j = 1 ∨ j = 2 ∨ j = 3) with rfl | rfl | rfl | rfl
    · rw [part3_0]
      have HI := Lib.hid hI
      clear hI
      go_wp2_with fail
      go_roundw
      case rel => exact ⟨1, by omega, by omega, by go_num, by rw [part3_1], HI.out⟩
      case measure => simp [intOf]
    · rw [part3_1]
      have HI := Lib.hid hI
      clear hI
      go_wp2_with fail
      go_roundw
      case rel => exact ⟨2, by omega, by omega, by go_num, by rw [part3_2], HI.out⟩
      case measure => simp [intOf]
    · rw [part3_2]
      have HI := Lib.hid hI
      clear hI
      go_wp2_with fail
      go_roundw
      case rel => exact ⟨3, by omega, by omega, by go_num, by rw [part3_3], HI.out⟩
      case measure => simp [intOf]
    · rw [part3_3]
      obtain ⟨hbel, ⟨k3, k4⟩, l0, l1⟩ := hI
      have HB := Lib.hid hbel
      clear hbel
      go_wp2_with fail
      by_cases hp : 0 < p
      · have HV := Lib.hid (hid_t hp)
        clear hid_t hid_f
        refine wp_region_gd [mpEq (.int .i64 p), mpEq (.bool true), mpEq (.bool true), mpEq (.agg #[.int .u64 (sqh L), .int .u64 (sql L)]), mpEq (.pointer (some ⟨w.heap.size, 3, none⟩)), mpEq (.int .i64 c.u), mpEq (.int .i64 (c.x * c.x + c.y * c.y + c.z * c.z)), mpEq (.int .i64 (c.u * (c.x * c.x + c.y * c.y + c.z * c.z))), mpEq (.agg #[.int .u64 (sqh (L * (c.u * (c.x * c.x + c.y * c.y + c.z * c.z)))), .int .u64 (sql (L * (c.u * (c.x * c.x + c.y * c.y + c.z * c.z))))]), mpEq (.int .i64 p), mpEq (.agg #[.int .u64 (sqh (p * p)), .int .u64 (sql (p * p))]), mpEq (.pointer (some ⟨w.heap.size, 4, none⟩)), mpEq (.int .i64 c.d), mpEq (.agg #[.int .u64 (sqh (p * p * c.d)), .int .u64 (sql (p * p * c.d))]), mpEq (.bool (decide (L * (c.u * (c.x * c.x + c.y * c.y + c.z * c.z)) < p * p * c.d))), mpEq (.bool (decide (L * (c.u * (c.x * c.x + c.y * c.y + c.z * c.z)) < p * p * c.d))), mpEq (.bool (decide (L * (c.u * (c.x * c.x + c.y * c.y + c.z * c.z)) < p * p * c.d)))] mh0 (by kernel_rfl) (by kernel_rfl) (by kernel_rfl) (
          allOps_cons (fun a' w' hb hs hd => Or.inl ⟨wanted_n rfl, by
        exact op1 (φ := (mpEq (.int .i64 p)).p) ((hs.get 1 (by kernel_rfl)).trans (show _ = Value.int .i64 p from rfl)) (fun ρ e c => by simp [go_sem, e]) rfl⟩) <|
          allOps_cons (fun a' w' hb hs hd => Or.inl ⟨wanted_n rfl, by
        exact op1 (φ := (mpEq (.bool true)).p) ((show a'.eval (.tmp 22) = .int .i64 p from hd.get 0 22 (by kernel_rfl) (by kernel_rfl))) (fun ρ e c => by simp [go_sem, e, c, hp]) rfl⟩) <|
          allOps_cons (fun a' w' hb hs hd => Or.inl ⟨wanted_n rfl, by
        exact op1 (φ := (mpEq (.bool true)).p) ((show a'.eval (.tmp 23) = .bool true from hd.get 1 23 (by kernel_rfl) (by kernel_rfl))) (fun ρ e c => by simp [go_sem, e]) rfl⟩) <|
          allOps_cons (fun a' w' hb hs hd => Or.inl ⟨wanted_t (j := 2) (d := 24) rfl (by kernel_rfl) (show a'.eval (.tmp 24) = .bool true from hd.get 2 24 (by kernel_rfl) (by kernel_rfl)), by
        exact op1 (φ := (mpEq (.agg #[.int .u64 (sqh L), .int .u64 (sql L)])).p) ((hs.get 5 (by kernel_rfl)).trans (show _ = Value.pointer (some ⟨w.heap.size + 1, 0, none⟩) from rfl)) (fun ρ e c => by simp [go_sem, e, keep hb l0, keep hb l1]) rfl⟩) <|
          allOps_cons (fun a' w' hb hs hd => Or.inl ⟨wanted_t (j := 2) (d := 24) rfl (by kernel_rfl) (show a'.eval (.tmp 24) = .bool true from hd.get 2 24 (by kernel_rfl) (by kernel_rfl)), by
        exact op1 (φ := (mpEq (.pointer (some ⟨w.heap.size, 3, none⟩))).p) ((hs.get 3 (by kernel_rfl)).trans (show _ = Value.pointer (some ⟨w.heap.size, 0, none⟩) from rfl)) (fun ρ e c => by simp [go_sem, e]) rfl⟩) <|
          allOps_cons (fun a' w' hb hs hd => Or.inl ⟨wanted_t (j := 2) (d := 24) rfl (by kernel_rfl) (show a'.eval (.tmp 24) = .bool true from hd.get 2 24 (by kernel_rfl) (by kernel_rfl)), by
        exact op1 (φ := (mpEq (.int .i64 c.u)).p) ((show a'.eval (.tmp 26) = .pointer (some ⟨w.heap.size, 3, none⟩) from hd.get 4 26 (by kernel_rfl) (by kernel_rfl))) (fun ρ e c => by simp [go_sem, e, keep hb k3]) rfl⟩) <|
          allOps_cons (fun a' w' hb hs hd => Or.inl ⟨wanted_t (j := 2) (d := 24) rfl (by kernel_rfl) (show a'.eval (.tmp 24) = .bool true from hd.get 2 24 (by kernel_rfl) (by kernel_rfl)), by
        exact op1 (φ := (mpEq (.int .i64 (c.x * c.x + c.y * c.y + c.z * c.z))).p) ((hs.get 7 (by kernel_rfl)).trans (show _ = Value.int .i64 (c.x * c.x + c.y * c.y + c.z * c.z) from rfl)) (fun ρ e c => by simp [go_sem, e]) rfl⟩) <|
          allOps_cons (fun a' w' hb hs hd => Or.inl ⟨wanted_t (j := 2) (d := 24) rfl (by kernel_rfl) (show a'.eval (.tmp 24) = .bool true from hd.get 2 24 (by kernel_rfl) (by kernel_rfl)), by
        exact op2 (φ := (mpEq (.int .i64 (c.u * (c.x * c.x + c.y * c.y + c.z * c.z)))).p) ((show a'.eval (.tmp 27) = .int .i64 c.u from hd.get 5 27 (by kernel_rfl) (by kernel_rfl))) ((show a'.eval (.tmp 28) = .int .i64 (c.x * c.x + c.y * c.y + c.z * c.z) from hd.get 6 28 (by kernel_rfl) (by kernel_rfl))) (fun ρ e e' c => by simp [go_sem, e, e', m1]) rfl⟩) <|
          allOps_cons (fun a' w' hb hs hd => Or.inl ⟨wanted_t (j := 2) (d := 24) rfl (by kernel_rfl) (show a'.eval (.tmp 24) = .bool true from hd.get 2 24 (by kernel_rfl) (by kernel_rfl)), by
        have e0 := (show a'.eval (.tmp 25) = .agg #[.int .u64 (sqh L), .int .u64 (sql L)] from hd.get 3 25 (by kernel_rfl) (by kernel_rfl))
        have e1 := (show a'.eval (.tmp 29) = .int .i64 (c.u * (c.x * c.x + c.y * c.y + c.z * c.z)) from hd.get 7 29 (by kernel_rfl) (by kernel_rfl))
        exact rg_fn (φ := (mpEq (.agg #[.int .u64 (sqh (L * (c.u * (c.x * c.x + c.y * c.y + c.z * c.z)))), .int .u64 (sql (L * (c.u * (c.x * c.x + c.y * c.y + c.z * c.z))))])).p) (vs := #[.agg #[.int .u64 (sqh L), .int .u64 (sql L)], .int .i64 (c.u * (c.x * c.x + c.y * c.y + c.z * c.z))]) rfl (enters_of Tryz.func107 (by kernel_rfl) rfl) (by simp [e0, e1]) ((times_any L (c.u * (c.x * c.x + c.y * c.y + c.z * c.z)) hL0 n0 n1 n2 w').mono (by rintro e w1 ⟨rfl, h1⟩; exact ⟨_, rfl, h1, rfl⟩))⟩) <|
          allOps_cons (fun a' w' hb hs hd => Or.inl ⟨wanted_t (j := 2) (d := 24) rfl (by kernel_rfl) (show a'.eval (.tmp 24) = .bool true from hd.get 2 24 (by kernel_rfl) (by kernel_rfl)), by
        exact op1 (φ := (mpEq (.int .i64 p)).p) ((hs.get 1 (by kernel_rfl)).trans (show _ = Value.int .i64 p from rfl)) (fun ρ e c => by simp [go_sem, e]) rfl⟩) <|
          allOps_cons (fun a' w' hb hs hd => Or.inl ⟨wanted_t (j := 2) (d := 24) rfl (by kernel_rfl) (show a'.eval (.tmp 24) = .bool true from hd.get 2 24 (by kernel_rfl) (by kernel_rfl)), by
        have e0 := (show a'.eval (.tmp 31) = .int .i64 p from hd.get 9 31 (by kernel_rfl) (by kernel_rfl))
        exact rg_fn (φ := (mpEq (.agg #[.int .u64 (sqh (p * p)), .int .u64 (sql (p * p))])).p) (vs := #[.int .i64 p]) rfl (enters_of Tryz.func108 (by kernel_rfl) rfl) (by simp [e0]) ((sqB p b1 b2 w').mono (by rintro e w1 ⟨rfl, h1⟩; exact ⟨_, rfl, h1, rfl⟩))⟩) <|
          allOps_cons (fun a' w' hb hs hd => Or.inl ⟨wanted_t (j := 2) (d := 24) rfl (by kernel_rfl) (show a'.eval (.tmp 24) = .bool true from hd.get 2 24 (by kernel_rfl) (by kernel_rfl)), by
        exact op1 (φ := (mpEq (.pointer (some ⟨w.heap.size, 4, none⟩))).p) ((hs.get 3 (by kernel_rfl)).trans (show _ = Value.pointer (some ⟨w.heap.size, 0, none⟩) from rfl)) (fun ρ e c => by simp [go_sem, e]) rfl⟩) <|
          allOps_cons (fun a' w' hb hs hd => Or.inl ⟨wanted_t (j := 2) (d := 24) rfl (by kernel_rfl) (show a'.eval (.tmp 24) = .bool true from hd.get 2 24 (by kernel_rfl) (by kernel_rfl)), by
        exact op1 (φ := (mpEq (.int .i64 c.d)).p) ((show a'.eval (.tmp 33) = .pointer (some ⟨w.heap.size, 4, none⟩) from hd.get 11 33 (by kernel_rfl) (by kernel_rfl))) (fun ρ e c => by simp [go_sem, e, keep hb k4]) rfl⟩) <|
          allOps_cons (fun a' w' hb hs hd => Or.inl ⟨wanted_t (j := 2) (d := 24) rfl (by kernel_rfl) (show a'.eval (.tmp 24) = .bool true from hd.get 2 24 (by kernel_rfl) (by kernel_rfl)), by
        have e0 := (show a'.eval (.tmp 32) = .agg #[.int .u64 (sqh (p * p)), .int .u64 (sql (p * p))] from hd.get 10 32 (by kernel_rfl) (by kernel_rfl))
        have e1 := (show a'.eval (.tmp 34) = .int .i64 c.d from hd.get 12 34 (by kernel_rfl) (by kernel_rfl))
        exact rg_fn (φ := (mpEq (.agg #[.int .u64 (sqh (p * p * c.d)), .int .u64 (sql (p * p * c.d))])).p) (vs := #[.agg #[.int .u64 (sqh (p * p)), .int .u64 (sql (p * p))], .int .i64 c.d]) rfl (enters_of Tryz.func107 (by kernel_rfl) rfl) (by simp [e0, e1]) ((times_any (p * p) c.d q0 q1 q2 q3 w').mono (by rintro e w1 ⟨rfl, h1⟩; exact ⟨_, rfl, h1, rfl⟩))⟩) <|
          allOps_cons (fun a' w' hb hs hd => Or.inl ⟨wanted_t (j := 2) (d := 24) rfl (by kernel_rfl) (show a'.eval (.tmp 24) = .bool true from hd.get 2 24 (by kernel_rfl) (by kernel_rfl)), by
        have e0 := (show a'.eval (.tmp 30) = .agg #[.int .u64 (sqh (L * (c.u * (c.x * c.x + c.y * c.y + c.z * c.z)))), .int .u64 (sql (L * (c.u * (c.x * c.x + c.y * c.y + c.z * c.z))))] from hd.get 8 30 (by kernel_rfl) (by kernel_rfl))
        have e1 := (show a'.eval (.tmp 35) = .agg #[.int .u64 (sqh (p * p * c.d)), .int .u64 (sql (p * p * c.d))] from hd.get 13 35 (by kernel_rfl) (by kernel_rfl))
        exact rg_fn (φ := (mpEq (.bool (decide (L * (c.u * (c.x * c.x + c.y * c.y + c.z * c.z)) < p * p * c.d)))).p) (vs := #[.agg #[.int .u64 (sqh (L * (c.u * (c.x * c.x + c.y * c.y + c.z * c.z)))), .int .u64 (sql (L * (c.u * (c.x * c.x + c.y * c.y + c.z * c.z))))], .agg #[.int .u64 (sqh (p * p * c.d)), .int .u64 (sql (p * p * c.d))]]) rfl (enters_of Tryz.func99 (by kernel_rfl) rfl) (by simp [e0, e1]) ((lessB (L * (c.u * (c.x * c.x + c.y * c.y + c.z * c.z))) (p * p * c.d) w').mono (by rintro e w1 ⟨rfl, h1⟩; exact ⟨_, rfl, h1, rfl⟩))⟩) <|
          allOps_cons (fun a' w' hb hs hd => Or.inl ⟨wanted_n rfl, by
        exact op2 (φ := (mpEq (.bool (decide (L * (c.u * (c.x * c.x + c.y * c.y + c.z * c.z)) < p * p * c.d)))).p) ((show a'.eval (.tmp 24) = .bool true from hd.get 2 24 (by kernel_rfl) (by kernel_rfl))) ((show a'.eval (.tmp 36) = .bool (decide (L * (c.u * (c.x * c.x + c.y * c.y + c.z * c.z)) < p * p * c.d)) from hd.get 14 36 (by kernel_rfl) (by kernel_rfl))) (fun ρ e e' c => by simp [go_sem, e, e', c]) rfl⟩) <|
          allOps_cons (fun a' w' hb hs hd => Or.inl ⟨wanted_n rfl, by
        exact op1 (φ := (mpEq (.bool (decide (L * (c.u * (c.x * c.x + c.y * c.y + c.z * c.z)) < p * p * c.d)))).p) ((show a'.eval (.tmp 37) = .bool (decide (L * (c.u * (c.x * c.x + c.y * c.y + c.z * c.z)) < p * p * c.d)) from hd.get 15 37 (by kernel_rfl) (by kernel_rfl))) (fun ρ e c => by simp [go_sem, e]) rfl⟩) <| allOps_nil) (fun Q wy hb2 hall => ?_)
        have h8 : Q 6 = .bool (decide (L * (c.u * (c.x * c.x + c.y * c.y + c.z * c.z)) < p * p * c.d)) := hall.get 16 rfl
        clear hall
        simp only [mh0, maskPut, Nat.reduceAdd]
        rw [h8]
        clear h8
        go_wp2_with fail
        go_ret
        exact ⟨ret_bool HV.out, belowT HB.out hb2⟩
      · have HV := Lib.hid (hid_f (by omega))
        clear hid_t hid_f
        go_quiet (fail)
        go_wp2_with fail
        go_ret
        exact ⟨ret_bool HV.out, by have Bq := HB.out; (repeat (first | with_reducible exact Below.refl _ _ | with_reducible assumption | with_reducible refine Below.alloc ?_ (by first | (simp; done) | (simp; omega) | omega) _ | with_reducible refine Below.setCell ?_ (by first | (simp; done) | (simp; omega) | omega) _ | with_reducible refine Below.drew ?_ | with_reducible refine below_drewN ?_ _))⟩
end Go.Proofs.YtjncjoaohonmjaaGreat
