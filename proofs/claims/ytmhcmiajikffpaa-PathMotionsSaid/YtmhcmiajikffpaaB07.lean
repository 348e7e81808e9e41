/- Helpers: the contract of checkKnot, all ways. -/
import Derived.Test.YtmhcmiajikffpaaB06
import Derived.Test.YtmhcmiajikffpaaB00
import Derived.IntWalk
import Derived.Deep.RegionWith
import Derived.Deep.RegionHeld3
namespace Go.Proofs.Ytmhcmiajikffpaa
open Go.RowKit Go.Shelf Go.Sort
attribute [local go_sem] idx3_0 idx3_1 idx3_2 old1 fro1 old2 fro2 old3 fro3 old4 fro4 old5 fro5 old6 fro6 old7 fro7 old8 fro8 old9 fro9 old10 fro10 old11 fro11 old12 fro12
set_option maxRecDepth 100000 in
set_option maxHeartbeats 800000 in
theorem checkKnot_r (b off n c i : Nat) (w : World) (t1 x1 y1 z1 _ _ _ _ : Int) (hi : i < n) (_ : n ≤ 100) (_ : b < w.heap.size) (c1 : w.cell? ⟨b, off + i * 4, none⟩ = some (.int .i64 t1)) (c2 : w.cell? ⟨b, off + i * 4 + 1, none⟩ = some (.int .i64 x1)) (c3 : w.cell? ⟨b, off + i * 4 + 2, none⟩ = some (.int .i64 y1)) (c4 : w.cell? ⟨b, off + i * 4 + 3, none⟩ = some (.int .i64 z1)) (h : wi t1 0 1000000000000 = false) :
    Calls Try.prog 98 #[.slice (some ⟨b, off, none⟩) n c, .int .i64 i] w fun e w' => e = .returned (.int .i64 2) ∧ Below w.heap.size w w' := by
  go_enter Try.func98, Try.ntmps98
  go_wp2_with (first | (go_at_call 78; refine (components_any _ _ _ _).mono ?_; rintro e w1 ⟨rfl, o1, o2, rfl⟩) | (go_at_call 49; refine (within_any _ _ _ _).mono ?_; rintro e w' ⟨rfl, rfl⟩) | (go_at_call 106; refine (exceeds_any _ _ _ _ _ (by omega) (by omega)).mono ?_; rintro e w2 ⟨rfl, o1, o2, rfl⟩))
  go_ret
  exact ⟨rfl, by (repeat (first | with_reducible exact Below.refl _ _ | with_reducible assumption | with_reducible refine Below.alloc ?_ (by first | (simp; done) | (simp; omega) | omega) _ | with_reducible refine Below.setCell ?_ (by first | (simp; done) | (simp; omega) | omega) _ | with_reducible refine Below.drew ?_ | with_reducible refine below_drewN ?_ _))⟩
set_option maxRecDepth 100000 in
set_option maxHeartbeats 800000 in
theorem checkKnot_x (b off n c i : Nat) (w : World) (t1 x1 y1 z1 _ _ _ _ : Int) (hi : i < n) (_ : n ≤ 100) (_ : b < w.heap.size) (c1 : w.cell? ⟨b, off + i * 4, none⟩ = some (.int .i64 t1)) (c2 : w.cell? ⟨b, off + i * 4 + 1, none⟩ = some (.int .i64 x1)) (c3 : w.cell? ⟨b, off + i * 4 + 2, none⟩ = some (.int .i64 y1)) (c4 : w.cell? ⟨b, off + i * 4 + 3, none⟩ = some (.int .i64 z1)) (h : wi t1 0 1000000000000 = true) (h2 : exc x1 y1 z1 1000000 = true) :
    Calls Try.prog 98 #[.slice (some ⟨b, off, none⟩) n c, .int .i64 i] w fun e w' => e = .returned (.int .i64 2) ∧ Below w.heap.size w w' := by
  go_enter Try.func98, Try.ntmps98
  go_wp2_with (first | (go_at_call 78; refine (components_any _ _ _ _).mono ?_; rintro e w1 ⟨rfl, o1, o2, rfl⟩) | (go_at_call 49; refine (within_any _ _ _ _).mono ?_; rintro e w' ⟨rfl, rfl⟩) | (go_at_call 106; refine (exceeds_any _ _ _ _ _ (by omega) (by omega)).mono ?_; rintro e w2 ⟨rfl, o1, o2, rfl⟩))
  go_ret
  exact ⟨rfl, by (repeat (first | with_reducible exact Below.refl _ _ | with_reducible assumption | with_reducible refine Below.alloc ?_ (by first | (simp; done) | (simp; omega) | omega) _ | with_reducible refine Below.setCell ?_ (by first | (simp; done) | (simp; omega) | omega) _ | with_reducible refine Below.drew ?_ | with_reducible refine below_drewN ?_ _))⟩
set_option maxRecDepth 100000 in
set_option maxHeartbeats 800000 in
theorem checkKnot_z (b off n c i : Nat) (w : World) (t1 x1 y1 z1 _ _ _ _ : Int) (hi : i < n) (_ : n ≤ 100) (_ : b < w.heap.size) (c1 : w.cell? ⟨b, off + i * 4, none⟩ = some (.int .i64 t1)) (c2 : w.cell? ⟨b, off + i * 4 + 1, none⟩ = some (.int .i64 x1)) (c3 : w.cell? ⟨b, off + i * 4 + 2, none⟩ = some (.int .i64 y1)) (c4 : w.cell? ⟨b, off + i * 4 + 3, none⟩ = some (.int .i64 z1)) (h : wi t1 0 1000000000000 = true) (h2 : exc x1 y1 z1 1000000 = false) (h0 : i = 0) :
    Calls Try.prog 98 #[.slice (some ⟨b, off, none⟩) n c, .int .i64 i] w fun e w' => e = .returned (.int .i64 0) ∧ Below w.heap.size w w' := by
  have hz : ((i : Int) == 0) = true := by simp [h0]
  clear h0
  go_enter Try.func98, Try.ntmps98
  go_wp2_with (first | (go_at_call 78; refine (components_any _ _ _ _).mono ?_; rintro e w1 ⟨rfl, o1, o2, rfl⟩) | (go_at_call 49; refine (within_any _ _ _ _).mono ?_; rintro e w' ⟨rfl, rfl⟩) | (go_at_call 106; refine (exceeds_any _ _ _ _ _ (by omega) (by omega)).mono ?_; rintro e w2 ⟨rfl, o1, o2, rfl⟩))
  go_ret
  exact ⟨rfl, by (repeat (first | with_reducible exact Below.refl _ _ | with_reducible assumption | with_reducible refine Below.alloc ?_ (by first | (simp; done) | (simp; omega) | omega) _ | with_reducible refine Below.setCell ?_ (by first | (simp; done) | (simp; omega) | omega) _ | with_reducible refine Below.drew ?_ | with_reducible refine below_drewN ?_ _))⟩
set_option maxRecDepth 100000 in
set_option maxHeartbeats 800000 in
theorem checkKnot_o (b off n c i : Nat) (w : World) (t1 x1 y1 z1 t0 x0 y0 z0 : Int) (hi : i < n) (hn2 : n ≤ 100) (hb : b < w.heap.size) (c1 : w.cell? ⟨b, off + i * 4, none⟩ = some (.int .i64 t1)) (c2 : w.cell? ⟨b, off + i * 4 + 1, none⟩ = some (.int .i64 x1)) (c3 : w.cell? ⟨b, off + i * 4 + 2, none⟩ = some (.int .i64 y1)) (c4 : w.cell? ⟨b, off + i * 4 + 3, none⟩ = some (.int .i64 z1)) (h : wi t1 0 1000000000000 = true) (h2 : exc x1 y1 z1 1000000 = false) (d1 : w.cell? ⟨b, off + (i - 1) * 4, none⟩ = some (.int .i64 t0)) (d2 : w.cell? ⟨b, off + (i - 1) * 4 + 1, none⟩ = some (.int .i64 x0)) (d3 : w.cell? ⟨b, off + (i - 1) * 4 + 2, none⟩ = some (.int .i64 y0)) (d4 : w.cell? ⟨b, off + (i - 1) * 4 + 3, none⟩ = some (.int .i64 z0)) (hi0 : 0 < i) (g1 : 0 ≤ t1) (g2 : t1 ≤ 1000000000000) (g3 : 0 ≤ t0) (g4 : t0 ≤ 1000000000000) (h4 : t1 - t0 ≤ 0) :
    Calls Try.prog 98 #[.slice (some ⟨b, off, none⟩) n c, .int .i64 i] w fun e w' => e = .returned (.int .i64 9) ∧ Below w.heap.size w w' := by
  have hz : ((i : Int) == 0) = false := by simp; omega
  go_enter Try.func98, Try.ntmps98
  go_wp2_with (first | (go_at_call 78; refine (components_any _ _ _ _).mono ?_; rintro e w1 ⟨rfl, o1, o2, rfl⟩) | (go_at_call 49; refine (within_any _ _ _ _).mono ?_; rintro e w' ⟨rfl, rfl⟩) | (go_at_call 106; refine (exceeds_any _ _ _ _ _ (by omega) (by omega)).mono ?_; rintro e w2 ⟨rfl, o1, o2, rfl⟩))
  go_ret
  exact ⟨rfl, by (repeat (first | with_reducible exact Below.refl _ _ | with_reducible assumption | with_reducible refine Below.alloc ?_ (by first | (simp; done) | (simp; omega) | omega) _ | with_reducible refine Below.setCell ?_ (by first | (simp; done) | (simp; omega) | omega) _ | with_reducible refine Below.drew ?_ | with_reducible refine below_drewN ?_ _))⟩
set_option maxRecDepth 100000 in
set_option maxHeartbeats 800000 in
theorem checkKnot_g (b off n c i : Nat) (w : World) (t1 x1 y1 z1 t0 x0 y0 z0 : Int) (hi : i < n) (hn2 : n ≤ 100) (hb : b < w.heap.size) (c1 : w.cell? ⟨b, off + i * 4, none⟩ = some (.int .i64 t1)) (c2 : w.cell? ⟨b, off + i * 4 + 1, none⟩ = some (.int .i64 x1)) (c3 : w.cell? ⟨b, off + i * 4 + 2, none⟩ = some (.int .i64 y1)) (c4 : w.cell? ⟨b, off + i * 4 + 3, none⟩ = some (.int .i64 z1)) (h : wi t1 0 1000000000000 = true) (h2 : exc x1 y1 z1 1000000 = false) (d1 : w.cell? ⟨b, off + (i - 1) * 4, none⟩ = some (.int .i64 t0)) (d2 : w.cell? ⟨b, off + (i - 1) * 4 + 1, none⟩ = some (.int .i64 x0)) (d3 : w.cell? ⟨b, off + (i - 1) * 4 + 2, none⟩ = some (.int .i64 y0)) (d4 : w.cell? ⟨b, off + (i - 1) * 4 + 3, none⟩ = some (.int .i64 z0)) (hi0 : 0 < i) (g1 : 0 ≤ t1) (g2 : t1 ≤ 1000000000000) (g3 : 0 ≤ t0) (g4 : t0 ≤ 1000000000000) (_ : 0 < t1 - t0) (h5 : 10000 < t1 - t0) :
    Calls Try.prog 98 #[.slice (some ⟨b, off, none⟩) n c, .int .i64 i] w fun e w' => e = .returned (.int .i64 14) ∧ Below w.heap.size w w' := by
  have hz : ((i : Int) == 0) = false := by simp; omega
  go_enter Try.func98, Try.ntmps98
  go_wp2_with (first | (go_at_call 78; refine (components_any _ _ _ _).mono ?_; rintro e w1 ⟨rfl, o1, o2, rfl⟩) | (go_at_call 49; refine (within_any _ _ _ _).mono ?_; rintro e w' ⟨rfl, rfl⟩) | (go_at_call 106; refine (exceeds_any _ _ _ _ _ (by omega) (by omega)).mono ?_; rintro e w2 ⟨rfl, o1, o2, rfl⟩))
  go_ret
  exact ⟨rfl, by (repeat (first | with_reducible exact Below.refl _ _ | with_reducible assumption | with_reducible refine Below.alloc ?_ (by first | (simp; done) | (simp; omega) | omega) _ | with_reducible refine Below.setCell ?_ (by first | (simp; done) | (simp; omega) | omega) _ | with_reducible refine Below.drew ?_ | with_reducible refine below_drewN ?_ _))⟩
structure Knot where
  t : Int
  x : Int
  y : Int
  z : Int
def KAt (w : World) (b off n : Nat) (k : Nat → Knot) : Prop :=
  b < w.heap.size ∧ ∀ i, i < n → w.cell? ⟨b, off + i * 4, none⟩ = some (.int .i64 (k i).t) ∧ w.cell? ⟨b, off + i * 4 + 1, none⟩ = some (.int .i64 (k i).x) ∧
    w.cell? ⟨b, off + i * 4 + 2, none⟩ = some (.int .i64 (k i).y) ∧ w.cell? ⟨b, off + i * 4 + 3, none⟩ = some (.int .i64 (k i).z)
theorem KAt.below {w w' : World} {B b off n : Nat} {k : Nat → Knot} (h : KAt w b off n k) (hb : Below B w w') (hB : b < B) : KAt w' b off n k :=
  ⟨Nat.lt_of_lt_of_le h.1 hb.size, fun i hi => by
    rw [hb.cell (p := ⟨b, off + i * 4, none⟩) hB, hb.cell (p := ⟨b, off + i * 4 + 1, none⟩) hB, hb.cell (p := ⟨b, off + i * 4 + 2, none⟩) hB, hb.cell (p := ⟨b, off + i * 4 + 3, none⟩) hB]
    exact h.2 i hi⟩
/-- The knot lies within the limits of the document. -/
def Knot.ok (k : Knot) : Prop := (0 ≤ k.t ∧ k.t ≤ 1000000000000) ∧ (-1000000 ≤ k.x ∧ k.x ≤ 1000000) ∧ (-1000000 ≤ k.y ∧ k.y ≤ 1000000) ∧ (-1000000 ≤ k.z ∧ k.z ≤ 1000000)
instance (k : Knot) : Decidable k.ok := by unfold Knot.ok; infer_instance
def knotErr (k : Nat → Knot) (i : Nat) : Int :=
  if ¬ (k i).ok then 2 else if i = 0 then 0 else if (k i).t - (k (i - 1)).t ≤ 0 then 9 else if 10000 < (k i).t - (k (i - 1)).t then 14
  else brk ((k i).t - (k (i - 1)).t) (psum (k i).x (k i).y (k i).z (k (i - 1)).x (k (i - 1)).y (k (i - 1)).z 3)
theorem exc_f {x y z l : Int} : exc x y z l = false ↔ (-l ≤ x ∧ x ≤ l) ∧ (-l ≤ y ∧ y ≤ l) ∧ (-l ≤ z ∧ z ≤ l) := by
  simp [exc, wi, and_assoc]
theorem exc_t {x y z l : Int} (h : ¬ ((-l ≤ x ∧ x ≤ l) ∧ (-l ≤ y ∧ y ≤ l) ∧ (-l ≤ z ∧ z ≤ l))) : exc x y z l = true := by
  cases he : exc x y z l
  · exact absurd (exc_f.1 he) h
  · rfl
theorem checkKnot_any (b off n c i : Nat) (w : World) (k : Nat → Knot) (hi : i < n) (hn2 : n ≤ 100) (hk : KAt w b off n k) (hp : 0 < i → (k (i - 1)).ok) :
    Calls Try.prog 98 #[.slice (some ⟨b, off, none⟩) n c, .int .i64 i] w fun e w' => e = .returned (.int .i64 (knotErr k i)) ∧ Below w.heap.size w w' := by
  obtain ⟨hb, hkk⟩ := hk
  obtain ⟨c1, c2, c3, c4⟩ := hkk i hi
  unfold knotErr
  by_cases hok : (k i).ok
  · rw [if_neg (by simpa using hok)]
    obtain ⟨ht, hx, hy, hz⟩ := hok
    have hw : wi (k i).t 0 1000000000000 = true := wi_t.2 ht
    have he : exc (k i).x (k i).y (k i).z 1000000 = false := exc_f.2 ⟨hx, hy, hz⟩
    by_cases h0 : i = 0
    · rw [if_pos h0]
      exact checkKnot_z b off n c i w _ _ _ _ 0 0 0 0 hi hn2 hb c1 c2 c3 c4 hw he h0
    · rw [if_neg h0]
      obtain ⟨d1, d2, d3, d4⟩ := hkk (i - 1) (by omega)
      obtain ⟨gt, gx, gy, gz⟩ := hp (by omega)
      by_cases h9 : (k i).t - (k (i - 1)).t ≤ 0
      · rw [if_pos h9]
        exact checkKnot_o b off n c i w _ _ _ _ _ _ _ _ hi hn2 hb c1 c2 c3 c4 hw he d1 d2 d3 d4 (by omega) ht.1 ht.2 gt.1 gt.2 h9
      · rw [if_neg h9]
        by_cases h14 : 10000 < (k i).t - (k (i - 1)).t
        · rw [if_pos h14]
          exact checkKnot_g b off n c i w _ _ _ _ _ _ _ _ hi hn2 hb c1 c2 c3 c4 hw he d1 d2 d3 d4 (by omega) ht.1 ht.2 gt.1 gt.2 (by omega) h14
        · rw [if_neg h14]
          exact checkKnot_1 b off n c i w _ _ _ _ _ _ _ _ hi hn2 hb (by omega) hw he c1 c2 c3 c4 d1 d2 d3 d4 ht.1 ht.2 gt.1 gt.2 (by omega) (by omega) hx.1 hx.2 gx.1 gx.2 hy.1 hy.2 gy.1 gy.2 hz.1 hz.2 gz.1 gz.2
  · rw [if_pos (by simpa using hok)]
    cases hw : wi (k i).t 0 1000000000000
    · exact checkKnot_r b off n c i w _ _ _ _ 0 0 0 0 hi hn2 hb c1 c2 c3 c4 hw
    · refine checkKnot_x b off n c i w _ _ _ _ 0 0 0 0 hi hn2 hb c1 c2 c3 c4 hw (exc_t fun h => hok ⟨wi_t.1 hw, h.1, h.2.1, h.2.2⟩)
end Go.Proofs.Ytmhcmiajikffpaa
namespace Go.Proofs.Ytmhcmiajikffpaa
open Go.RowKit Go.Shelf Go.Sort
attribute [local go_sem] idx3_0 idx3_1 idx3_2 old1 fro1 old2 fro2 old3 fro3 old4 fro4 old5 fro5 old6 fro6 old7 fro7 old8 fro8 old9 fro9 old10 fro10 old11 fro11 old12 fro12
set_option maxRecDepth 100000 in
set_option maxHeartbeats 400000 in
theorem lastTime_any (b off n c : Nat) (d t : Int) (w : World) (hn : 0 < n) (hn2 : n ≤ 100) (h : w.cell? ⟨b, off + (n - 1) * 4, none⟩ = some (.int .i64 t)) :
    Calls Try.prog 58 #[.agg #[.slice (some ⟨b, off, none⟩) n c, .int .i64 d]] w fun e w' => e = .returned (.int .i64 t) ∧ ∃ o1, w' = w.alloc o1 := by
  go_enter Try.func58, Try.ntmps58
  go_wp2
  go_ret
  exact ⟨rfl, _, rfl⟩
set_option maxRecDepth 100000 in
set_option maxHeartbeats 400000 in
theorem firstTime_any (b off n c : Nat) (d t : Int) (w : World) (hn : 0 < n) (_ : n ≤ 100) (h : w.cell? ⟨b, off, none⟩ = some (.int .i64 t)) :
    Calls Try.prog 69 #[.agg #[.slice (some ⟨b, off, none⟩) n c, .int .i64 d]] w fun e w' => e = .returned (.int .i64 t) ∧ ∃ o1, w' = w.alloc o1 := by
  go_enter Try.func69, Try.ntmps69
  go_wp2
  go_ret
  exact ⟨rfl, _, rfl⟩
/-- The first knot that has an error, from a knot on: its index and the error; or none. -/
def ctFrom (k : Nat → Knot) : Nat → Nat → Option (Nat × Int)
  | _, 0 => none
  | i, n + 1 => if knotErr k i = 0 then ctFrom k (i + 1) n else some (i, knotErr k i)
def ctRes (k : Nat → Knot) (n : Nat) (d : Int) : Int × Int :=
  if n = 0 then (0, 10) else if 12 < n then (0, 8) else match ctFrom k 0 n with
  | some (i, e) => ((i : Int), e)
  | none => if wi d 0 1000 then (0, 0) else (0, 2)
def KA (w : World) (A : Option Addr) (n : Nat) (k : Nat → Knot) : Prop := 0 < n → ∃ b off, A = some ⟨b, off, none⟩ ∧ KAt w b off n k
theorem knotErr_ok {k : Nat → Knot} {i : Nat} (h : knotErr k i = 0) : (k i).ok := by
  unfold knotErr at h
  by_cases hok : (k i).ok
  · exact hok
  · rw [if_pos hok] at h; cases h
set_option maxRecDepth 100000 in
set_option maxHeartbeats 400000 in
theorem checkTrack_0 (A : Option Addr) (c : Nat) (d : Int) (w : World) :
    Calls Try.prog 65 #[.agg #[.slice A 0 c, .int .i64 d]] w fun e w' => e = .returned (.tuple #[.int .i64 0, .int .i64 10]) ∧ Below w.heap.size w w' := by
  go_enter Try.func65, Try.ntmps65
  go_wp2
  go_ret2
  exact ⟨rfl, by (repeat (first | with_reducible exact Below.refl _ _ | with_reducible assumption | with_reducible refine Below.alloc ?_ (by first | (simp; done) | (simp; omega) | omega) _ | with_reducible refine Below.setCell ?_ (by first | (simp; done) | (simp; omega) | omega) _ | with_reducible refine Below.drew ?_ | with_reducible refine below_drewN ?_ _))⟩
set_option maxRecDepth 100000 in
set_option maxHeartbeats 400000 in
theorem checkTrack_l (A : Option Addr) (n c : Nat) (d : Int) (w : World) (h : 12 < n) (hn : n ≤ 9223372036854775807) :
    Calls Try.prog 65 #[.agg #[.slice A n c, .int .i64 d]] w fun e w' => e = .returned (.tuple #[.int .i64 0, .int .i64 8]) ∧ Below w.heap.size w w' := by
  have hz : ((n : Int) == 0) = false := by simp; omega
  go_enter Try.func65, Try.ntmps65
  go_wp2
  go_ret2
  exact ⟨rfl, by (repeat (first | with_reducible exact Below.refl _ _ | with_reducible assumption | with_reducible refine Below.alloc ?_ (by first | (simp; done) | (simp; omega) | omega) _ | with_reducible refine Below.setCell ?_ (by first | (simp; done) | (simp; omega) | omega) _ | with_reducible refine Below.drew ?_ | with_reducible refine below_drewN ?_ _))⟩
set_option maxRecDepth 100000 in
set_option maxHeartbeats 800000 in
theorem checkTrack_m (b off n c : Nat) (d : Int) (w : World) (k : Nat → Knot) (h0 : 0 < n) (h : n ≤ 12) (hk : KAt w b off n k) :
    Calls Try.prog 65 #[.agg #[.slice (some ⟨b, off, none⟩) n c, .int .i64 d]] w fun e w' => e = .returned (.tuple #[.int .i64 (ctRes k n d).1, .int .i64 (ctRes k n d).2]) ∧ Below w.heap.size w w' := by
  have hz : ((n : Int) == 0) = false := by simp; omega
  have HK := Lib.hid hk
  have hb := hk.1
  clear hk
  go_enter Try.func65, Try.ntmps65
  go_wp2_with fail
  go_loopw [17] (fun i wr => ∃ j : Nat, j ≤ n ∧ i = .int .i64 j ∧ Below w.heap.size w wr ∧ w.heap.size < wr.heap.size ∧ wr.cell? ⟨w.heap.size, 0, none⟩ = some (.slice (some ⟨b, off, none⟩) n c) ∧ wr.cell? ⟨w.heap.size, 1, none⟩ = some (.int .i64 d) ∧
    Hid (∀ q, q < j → knotErr k q = 0) ∧ Hid (ctFrom k 0 n = ctFrom k j (n - j))) (fun i _ => n - (intOf i).toNat)
  case atStart => exact ⟨0, Nat.zero_le _, rfl, by (repeat (first | with_reducible exact Below.refl _ _ | with_reducible assumption | with_reducible refine Below.alloc ?_ (by first | (simp; done) | (simp; omega) | omega) _ | with_reducible refine Below.setCell ?_ (by first | (simp; done) | (simp; omega) | omega) _ | with_reducible refine Below.drew ?_ | with_reducible refine below_drewN ?_ _)), by simp, by simp [go_sem], by simp [go_sem], fun q hq => absurd hq (Nat.not_lt_zero _), rfl⟩
  case round =>
    obtain ⟨j, hj, rfl, hbel, hsz, p0, p1, H, H2⟩ := hrel
    have HS : j < n → Hid (ctFrom k j (n - j) = if knotErr k j = 0 then ctFrom k (j + 1) (n - (j + 1)) else some (j, knotErr k j)) := by
      intro hlt
      rw [show n - j = (n - (j + 1)) + 1 from by omega]; rfl
    by_cases hlt : j < n
    · have HS := HS hlt
      have hcon := checkKnot_any b off n c j wr k hlt (by omega) (HK.out.below hbel hb) (fun h0 => knotErr_ok (H.out (j - 1) (by omega)))
      have hws := hbel.size
      have HB := Lib.hid hbel
      clear hbel
      by_cases hz0 : knotErr k j = 0
      · rw [hz0] at hcon
        have HZ := Lib.hid hz0
        have HC := Lib.hid hcon
        clear hz0 hcon
        go_wp2_with (go_at_call 98; refine HC.out.mono ?_; rintro e w1 ⟨rfl, hb1⟩)
        go_roundw
        case rel => exact ⟨j + 1, by omega, by go_num, HB.out.trans (hb1.mono hws), Nat.lt_of_lt_of_le hsz hb1.size, (hb1.cell (p := ⟨w.heap.size, 0, none⟩) hsz).trans p0, (hb1.cell (p := ⟨w.heap.size, 1, none⟩) hsz).trans p1, fun q hq => (by
          rcases Nat.lt_or_eq_of_le (Nat.le_of_lt_succ hq) with h | h
          · exact H.out q h
          · rw [h]; exact HZ.out), (by show ctFrom k 0 n = _; rw [H2.out, HS.out, if_pos HZ.out])⟩
        case measure => simp [intOf]; omega
      · have HZ := Lib.hid hz0
        have hq : (knotErr k j != 0) = true := by simpa using hz0
        have HC := Lib.hid hcon
        clear hz0 hcon
        have hv : ctRes k n d = ((j : Int), knotErr k j) := by
          unfold ctRes
          rw [if_neg (by omega), if_neg (by omega), H2.out, HS.out, if_neg HZ.out]
        have HV := Lib.hid hv
        clear hv
        generalize knotErr k j = ek at hq HC HV
        go_wp2_with (go_at_call 98; refine HC.out.mono ?_; rintro e w1 ⟨rfl, hb1⟩)
        go_ret2
        exact ⟨by rw [HV.out]; rfl, HB.out.trans (hb1.mono hws)⟩
    · obtain rfl : j = n := by omega
      clear HS
      have HB := Lib.hid hbel
      clear hbel
      have hv : ctRes k j d = if wi d 0 1000 then (0, 0) else (0, 2) := by
        unfold ctRes
        rw [if_neg (by omega), if_neg (by omega), H2.out, Nat.sub_self]; rfl
      have HV := Lib.hid hv
      clear hv
      cases hd : wi d 0 1000
      all_goals
        rw [hd] at HV
        go_wp2_with (go_at_call 49; refine (within_any _ _ _ _).mono ?_; rintro e w' ⟨rfl, rfl⟩)
        go_ret2
        exact ⟨by rw [HV.out]; rfl, HB.out⟩
theorem checkTrack_any (A : Option Addr) (n c : Nat) (d : Int) (w : World) (k : Nat → Knot) (hn : n ≤ 9223372036854775807) (hk : KA w A n k) :
    Calls Try.prog 65 #[.agg #[.slice A n c, .int .i64 d]] w fun e w' => e = .returned (.tuple #[.int .i64 (ctRes k n d).1, .int .i64 (ctRes k n d).2]) ∧ Below w.heap.size w w' := by
  by_cases h0 : n = 0
  · subst h0
    exact checkTrack_0 A c d w
  · by_cases h12 : 12 < n
    · have e : ctRes k n d = (0, 8) := by unfold ctRes; rw [if_neg h0, if_pos h12]
      rw [e]
      exact checkTrack_l A n c d w h12 hn
    · obtain ⟨b, off, rfl, hk2⟩ := hk (by omega)
      exact checkTrack_m b off n c d w k (by omega) (by omega) hk2
def ctErr (k : Nat → Knot) (n : Nat) (d : Int) : Int := (ctRes k n d).2
/-! ### the checks as closures -/
set_option maxRecDepth 100000 in
set_option maxHeartbeats 400000 in
theorem trackCheck1_any (A : Option Addr) (n c bp : Nat) (d : Int) (w : World) (k : Nat → Knot) (hn : n ≤ 9223372036854775807) (hk : KA w A n k)
    (p0 : w.cell? ⟨bp, 0, none⟩ = some (.slice A n c)) (p1 : w.cell? ⟨bp, 1, none⟩ = some (.int .i64 d)) :
    Calls Try.prog 64 #[.pointer (some ⟨bp, 0, none⟩)] w fun e w' => e = .returned (.int .i64 (ctErr k n d)) ∧ Below w.heap.size w w' := by
  have HC := Lib.hid (checkTrack_any A n c d w k hn hk)
  have HE : Hid (ctErr k n d = (ctRes k n d).2) := rfl
  clear hk
  generalize (ctRes k n d).2 = e2 at HC HE
  generalize (ctRes k n d).1 = e1 at HC
  go_enter Try.func64, Try.ntmps64
  go_wp2_with (go_at_call 65; refine HC.out.mono ?_; rintro e w1 ⟨rfl, hb1⟩)
  go_ret
  exact ⟨ret_int HE.out.symm, hb1⟩
set_option maxRecDepth 100000 in
set_option maxHeartbeats 400000 in
theorem trackCheck_any (A : Option Addr) (n c : Nat) (d : Int) (w : World) :
    Calls Try.prog 39 #[.agg #[.slice A n c, .int .i64 d]] w fun e w' => e = .returned (.func (.func 64) #[] #[.pointer (some ⟨w.heap.size, 0, none⟩)]) ∧
      w' = w.alloc (.cells #[.slice A n c, .int .i64 d] 24) := by
  go_enter Try.func39, Try.ntmps39
  go_wp2
  go_ret
  exact ⟨rfl, rfl⟩
def outside (time : Int) (k : Nat → Knot) (n : Nat) : Bool := !wi time (k 0).t (k (n - 1)).t
set_option maxRecDepth 100000 in
set_option maxHeartbeats 400000 in
theorem timeIn_any (b off n c bt : Nat) (d time : Int) (w : World) (k : Nat → Knot) (hn : 0 < n) (hn2 : n ≤ 100) (hk : KAt w b off n k) (ht : w.cell? ⟨bt, 0, none⟩ = some (.int .i64 time)) :
    Calls Try.prog 68 #[.agg #[.slice (some ⟨b, off, none⟩) n c, .int .i64 d], .pointer (some ⟨bt, 0, none⟩)] w fun e w' => e = .returned (.bool (outside time k n)) ∧ Below w.heap.size w w' := by
  obtain ⟨hb, hkk⟩ := hk
  have c1 := (hkk 0 hn).1
  have c2 := (hkk (n - 1) (by omega)).1
  rw [show off + 0 * 4 = off by omega] at c1
  clear hkk
  unfold outside
  generalize (k 0).t = t0 at c1 ⊢
  generalize (k (n - 1)).t = t1 at c2 ⊢
  go_enter Try.func68, Try.ntmps68
  go_wp2_with fail
  go_region_held3 (fun w' => w'.cell? ⟨bt, 0, none⟩ = some (.int .i64 time) ∧ w'.cell? ⟨w.heap.size, 0, none⟩ = some (.slice (some ⟨b, off, none⟩) n c) ∧ w'.cell? ⟨w.heap.size, 1, none⟩ = some (.int .i64 d)) (simp [go_sem, *])
    (first | (go_at_call 69; go_must (refine (firstTime_any b off n c d t0 _ hn hn2 (by simp [go_sem, *])).mono ?_); rintro e w2 ⟨rfl, o3, rfl⟩) | (go_at_call 58; refine (lastTime_any b off n c d t1 _ hn hn2 (by simp [go_sem, *])).mono ?_; rintro e w2 ⟨rfl, o3, rfl⟩) | (go_at_call 49; (with_reducible refine (within_any _ _ _ _).mono ?_); rintro e w' ⟨rfl, rfl⟩))
  all_goals
    go_wp2
    go_ret
    exact ⟨rfl, by (repeat (first | with_reducible exact Below.refl _ _ | with_reducible assumption | with_reducible refine Below.alloc ?_ (by first | (simp; done) | (simp; omega) | omega) _ | with_reducible refine Below.setCell ?_ (by first | (simp; done) | (simp; omega) | omega) _ | with_reducible refine Below.drew ?_ | with_reducible refine below_drewN ?_ _))⟩
set_option maxRecDepth 100000 in
set_option maxHeartbeats 400000 in
theorem indexFunc_track (g : Nat) (cb : Array Value) (n c : Nat) (b off : Nat) (sv : Nat → Value) (sd : Nat → Int) (p : Nat → Bool) (w : World) (eg : ∀ args w, (callFunc g args).run Try.prog w = .ok (.enter g args) w) (hn : n ≤ 1000000)
    (hb : b < w.heap.size) (hv : ∀ i, i < n → ∃ A q r, sv i = .slice A q r) (hc : ∀ i, i < n → w.cell? ⟨b, off + i * 2, none⟩ = some (sv i) ∧ w.cell? ⟨b, off + i * 2 + 1, none⟩ = some (.int .i64 (sd i)))
    (hf : ∀ (i : Nat) (w1 : World), i < n → Below w.heap.size w w1 → Calls Try.prog g (#[.agg #[sv i, .int .i64 (sd i)]] ++ cb) w1 fun e w' => e = .returned (.bool (p i)) ∧ Below w1.heap.size w1 w') :
    Calls Try.prog 99 #[.slice (some ⟨b, off, none⟩) n c, .func (.func g) #[] cb] w fun e w' => e = .returned (.int .i64 (fidx p n)) ∧ Below w.heap.size w w' := by
  have HF := Lib.hid hf
  have HV := Lib.hid hv
  clear hv
  have HC := Lib.hid hc
  clear hf hc
  go_enter Try.func99, Try.ntmps99
  go_wp2
  go_loopw [8] (fun i wr => ∃ k : Nat, k ≤ n ∧ i = .int .i64 k ∧ Below w.heap.size w wr ∧ Hid (∀ j, j < k → p j = false)) (fun i _ => n - (intOf i).toNat)
  case atStart => exact ⟨0, Nat.zero_le _, rfl, Below.refl _ _, fun j hj => absurd hj (Nat.not_lt_zero _)⟩
  case round =>
    obtain ⟨k, hk, rfl, hbel, H⟩ := hrel
    by_cases hlt : k < n
    · obtain ⟨e1, e2⟩ := HC.out k hlt
      rw [← hbel.cell (p := ⟨b, off + k * 2, none⟩) hb] at e1
      rw [← hbel.cell (p := ⟨b, off + k * 2 + 1, none⟩) hb] at e2
      have hcon := HF.out k wr hlt hbel
      obtain ⟨A, q, r, hs⟩ := HV.out k hlt
      rw [hs] at e1 hcon
      clear hs
      have hsz := hbel.size
      have HB := Lib.hid hbel
      clear hbel
      cases hp : p k <;> rw [hp] at hcon <;> have HP := Lib.hid hp <;> clear hp
      · go_wp2_with (go_at_fn g; refine hcon.mono ?_; rintro e w1 ⟨rfl, hb1⟩)
        go_roundw
        case rel => exact ⟨k + 1, by omega, by go_num, HB.out.trans (hb1.mono hsz), fun j hj => (by
          rcases Nat.lt_or_eq_of_le (Nat.le_of_lt_succ hj) with h | h
          · exact H.out j h
          · rw [h]; exact HP.out)⟩
        case measure => simp [intOf]; omega
      · go_wp2_with (go_at_fn g; refine hcon.mono ?_; rintro e w1 ⟨rfl, hb1⟩)
        go_ret
        exact ⟨ret_int (fidx_hit hlt HP.out H.out).symm, HB.out.trans (hb1.mono hsz)⟩
    · obtain rfl : k = n := by omega
      have HB := Lib.hid hbel
      clear hbel
      go_wp2
      go_ret
      exact ⟨ret_int (fidx_miss H.out).symm, HB.out⟩
set_option maxRecDepth 100000 in
set_option maxHeartbeats 400000 in
theorem containsFunc_track (g : Nat) (cb : Array Value) (n c : Nat) (b off : Nat) (sv : Nat → Value) (sd : Nat → Int) (p : Nat → Bool) (w : World) (eg : ∀ args w, (callFunc g args).run Try.prog w = .ok (.enter g args) w) (hn : n ≤ 1000000)
    (hb : b < w.heap.size) (hv : ∀ i, i < n → ∃ A q r, sv i = .slice A q r) (hc : ∀ i, i < n → w.cell? ⟨b, off + i * 2, none⟩ = some (sv i) ∧ w.cell? ⟨b, off + i * 2 + 1, none⟩ = some (.int .i64 (sd i)))
    (hf : ∀ (i : Nat) (w1 : World), i < n → Below w.heap.size w w1 → Calls Try.prog g (#[.agg #[sv i, .int .i64 (sd i)]] ++ cb) w1 fun e w' => e = .returned (.bool (p i)) ∧ Below w1.heap.size w1 w') :
    Calls Try.prog 67 #[.slice (some ⟨b, off, none⟩) n c, .func (.func g) #[] cb] w fun e w' => e = .returned (.bool ((List.range n).any p)) ∧ Below w.heap.size w w' := by
  have HC := Lib.hid (indexFunc_track g cb n c b off sv sd p w eg hn hb hv hc hf)
  clear hf hc eg hv
  generalize hr : fidx p n = r at HC
  have HR := Lib.hid hr
  clear hr
  go_enter Try.func67, Try.ntmps67
  go_wp2_with (go_at_call 99; refine HC.out.mono ?_; rintro e w1 ⟨rfl, hb1⟩)
  go_ret
  exact ⟨ret_bool (by rw [← fidx_nn, HR.out]), hb1⟩
/-- A track in memory: the slice of its knots, and its doubt. -/
structure Trk where
  b : Nat
  off : Nat
  n : Nat
  c : Nat
  k : Nat → Knot
  d : Int
def Trk.v (t : Trk) : Value := .slice (some ⟨t.b, t.off, none⟩) t.n t.c
def Trk.At (t : Trk) (w : World) : Prop := 0 < t.n ∧ t.n ≤ 100 ∧ KAt w t.b t.off t.n t.k
theorem Trk.At.below {t : Trk} {w w' : World} (h : t.At w) (hb : Below w.heap.size w w') : t.At w' := ⟨h.1, h.2.1, h.2.2.below hb h.2.2.1⟩
set_option maxRecDepth 100000 in
set_option maxHeartbeats 400000 in
theorem timeCheck1_any (m tb bs bt : Nat) (T : Nat → Trk) (time : Int) (w : World) (hm : m ≤ 100) (hs : w.cell? ⟨bs, 0, none⟩ = some (.slice (some ⟨tb, 0, none⟩) m m)) (ht : w.cell? ⟨bt, 0, none⟩ = some (.int .i64 time)) (htb : tb < w.heap.size) (hbt : bt < w.heap.size)
    (hc : ∀ i, i < m → w.cell? ⟨tb, 0 + i * 2, none⟩ = some (T i).v ∧ w.cell? ⟨tb, 0 + i * 2 + 1, none⟩ = some (.int .i64 (T i).d)) (hT : ∀ i, i < m → (T i).At w) :
    Calls Try.prog 66 #[.pointer (some ⟨bs, 0, none⟩), .pointer (some ⟨bt, 0, none⟩)] w fun e w' => e = .returned (.bool (!(List.range m).any fun i => outside time (T i).k (T i).n)) ∧ Below w.heap.size w w' := by
  have HC := Lib.hid (containsFunc_track 68 #[.pointer (some ⟨bt, 0, none⟩)] m m tb 0 (fun i => (T i).v) (fun i => (T i).d) (fun i => outside time (T i).k (T i).n) w (enters_of Try.func68 (by kernel_rfl) rfl) (by omega) htb (fun i _ => ⟨_, _, _, rfl⟩) hc
    (fun i w1 hi hb => timeIn_any (T i).b (T i).off (T i).n (T i).c bt (T i).d time w1 (T i).k (hT i hi).1 (hT i hi).2.1 ((hT i hi).below hb).2.2 ((hb.cell (p := ⟨bt, 0, none⟩) hbt).trans ht)))
  clear hc hT
  generalize (List.range m).any (fun i => outside time (T i).k (T i).n) = r at HC ⊢
  go_enter Try.func66, Try.ntmps66
  go_wp2_with (go_at_call 67; refine HC.out.mono ?_; rintro e w1 ⟨rfl, hb1⟩)
  go_ret
  exact ⟨rfl, hb1⟩
set_option maxRecDepth 100000 in
set_option maxHeartbeats 400000 in
theorem timeCheck_any (time : Int) (sv : Value) (S : Option Addr) (q r : Nat) (hs : sv = .slice S q r) (w : World) :
    Calls Try.prog 40 #[.int .i64 time, sv] w fun e w' => e = .returned (.func (.func 79) #[] #[.pointer (some ⟨w.heap.size + 1 + 1 + 1, 0, none⟩), .pointer (some ⟨w.heap.size + 1 + 1, 0, none⟩)]) ∧
      w' = ((((w.alloc (.cells #[.int .i64 time] 3)).alloc (.cells #[sv] 112)).alloc (.cells #[.int .i64 2] 37)).alloc (.cells #[.func (.func 66) #[] #[.pointer (some ⟨w.heap.size + 1, 0, none⟩), .pointer (some ⟨w.heap.size, 0, none⟩)]] 26)) := by
  subst hs
  go_enter Try.func40, Try.ntmps40
  go_wp2_with (go_at_call 47; refine (require_any _ _ _ _).mono ?_; rintro e w1 ⟨rfl, rfl⟩)
  go_ret
  exact ⟨rfl, rfl⟩
end Go.Proofs.Ytmhcmiajikffpaa
namespace Go.Proofs.Ytmhcmiajikffpaa
open Go.RowKit Go.Shelf Go.Sort
attribute [local go_sem] idx3_0 idx3_1 idx3_2 old1 fro1 old2 fro2 old3 fro3 old4 fro4 old5 fro5 old6 fro6 old7 fro7 old8 fro8 old9 fro9 old10 fro10 old11 fro11 old12 fro12
set_option maxRecDepth 100000 in
set_option maxHeartbeats 400000 in
theorem placeAt1_any (t x y z time : Int) (bt : Nat) (w : World) (h1 : w.cell? ⟨bt, 0, none⟩ = some (.int .i64 time)) (h2 : bt < w.heap.size) :
    Calls Try.prog 77 #[.agg #[.int .i64 t, .int .i64 x, .int .i64 y, .int .i64 z], .pointer (some ⟨bt, 0, none⟩)] w fun e w' => e = .returned (.bool (decide (time ≤ t))) ∧ Below w.heap.size w w' := by
  go_enter Try.func77, Try.ntmps77
  go_wp2
  go_ret
  exact ⟨rfl, by (repeat (first | with_reducible exact Below.refl _ _ | with_reducible assumption | with_reducible refine Below.alloc ?_ (by first | (simp; done) | (simp; omega) | omega) _ | with_reducible refine Below.setCell ?_ (by first | (simp; done) | (simp; omega) | omega) _ | with_reducible refine Below.drew ?_ | with_reducible refine below_drewN ?_ _))⟩
set_option maxRecDepth 100000 in
set_option maxHeartbeats 400000 in
theorem indexFunc_knot (g : Nat) (cb : Array Value) (n c : Nat) (b off : Nat) (kt kx ky kz : Nat → Int) (p : Nat → Bool) (w : World) (eg : ∀ args w, (callFunc g args).run Try.prog w = .ok (.enter g args) w) (hn : n ≤ 1000000)
    (hb : b < w.heap.size) (hc : ∀ i, i < n → w.cell? ⟨b, off + i * 4, none⟩ = some (.int .i64 (kt i)) ∧ w.cell? ⟨b, off + i * 4 + 1, none⟩ = some (.int .i64 (kx i)) ∧
    w.cell? ⟨b, off + i * 4 + 2, none⟩ = some (.int .i64 (ky i)) ∧ w.cell? ⟨b, off + i * 4 + 3, none⟩ = some (.int .i64 (kz i)))
    (hf : ∀ (i : Nat) (w1 : World), i < n → Below w.heap.size w w1 → Calls Try.prog g (#[.agg #[.int .i64 (kt i), .int .i64 (kx i), .int .i64 (ky i), .int .i64 (kz i)]] ++ cb) w1 fun e w' => e = .returned (.bool (p i)) ∧ Below w1.heap.size w1 w') :
    Calls Try.prog 76 #[.slice (some ⟨b, off, none⟩) n c, .func (.func g) #[] cb] w fun e w' => e = .returned (.int .i64 (fidx p n)) ∧ Below w.heap.size w w' := by
  have HF := Lib.hid hf
  have HC := Lib.hid hc
  clear hf hc
  go_enter Try.func76, Try.ntmps76
  go_wp2
  go_loopw [8] (fun i wr => ∃ k : Nat, k ≤ n ∧ i = .int .i64 k ∧ Below w.heap.size w wr ∧ Hid (∀ j, j < k → p j = false)) (fun i _ => n - (intOf i).toNat)
  case atStart => exact ⟨0, Nat.zero_le _, rfl, Below.refl _ _, fun j hj => absurd hj (Nat.not_lt_zero _)⟩
  case round =>
    obtain ⟨k, hk, rfl, hbel, H⟩ := hrel
    by_cases hlt : k < n
    · obtain ⟨e1, e2, e3, e4⟩ := HC.out k hlt
      rw [← hbel.cell (p := ⟨b, off + k * 4, none⟩) hb] at e1
      rw [← hbel.cell (p := ⟨b, off + k * 4 + 1, none⟩) hb] at e2
      rw [← hbel.cell (p := ⟨b, off + k * 4 + 2, none⟩) hb] at e3
      rw [← hbel.cell (p := ⟨b, off + k * 4 + 3, none⟩) hb] at e4
      have hcon := HF.out k wr hlt hbel
      have hsz := hbel.size
      have HB := Lib.hid hbel
      clear hbel
      cases hp : p k <;> rw [hp] at hcon <;> have HP := Lib.hid hp <;> clear hp
      · go_wp2_with (go_at_fn g; refine hcon.mono ?_; rintro e w1 ⟨rfl, hb1⟩)
        go_roundw
        case rel => exact ⟨k + 1, by omega, by go_num, HB.out.trans (hb1.mono hsz), fun j hj => (by
          rcases Nat.lt_or_eq_of_le (Nat.le_of_lt_succ hj) with h | h
          · exact H.out j h
          · rw [h]; exact HP.out)⟩
        case measure => simp [intOf]; omega
      · go_wp2_with (go_at_fn g; refine hcon.mono ?_; rintro e w1 ⟨rfl, hb1⟩)
        go_ret
        exact ⟨ret_int (fidx_hit hlt HP.out H.out).symm, HB.out.trans (hb1.mono hsz)⟩
    · obtain rfl : k = n := by omega
      have HB := Lib.hid hbel
      clear hbel
      go_wp2
      go_ret
      exact ⟨ret_int (fidx_miss H.out).symm, HB.out⟩
set_option maxRecDepth 100000 in
set_option maxHeartbeats 800000 in
theorem placeAt_eq (b off n c : Nat) (d time : Int) (w : World) (kt kx ky kz : Nat → Int) (m : Nat) (hn : n ≤ 100) (hb : b < w.heap.size)
    (hc : ∀ i, i < n → w.cell? ⟨b, off + i * 4, none⟩ = some (.int .i64 (kt i)) ∧ w.cell? ⟨b, off + i * 4 + 1, none⟩ = some (.int .i64 (kx i)) ∧
      w.cell? ⟨b, off + i * 4 + 2, none⟩ = some (.int .i64 (ky i)) ∧ w.cell? ⟨b, off + i * 4 + 3, none⟩ = some (.int .i64 (kz i)))
    (hm : m < n) (hge : time = kt m) (hlt : ∀ j, j < m → kt j < time) :
    Calls Try.prog 43 #[.agg #[.slice (some ⟨b, off, none⟩) n c, .int .i64 d], .int .i64 time] w fun e w' => e = .returned (.agg #[.int .i64 (kx m), .int .i64 (ky m), .int .i64 (kz m), .int .i64 1]) ∧ Below w.heap.size w w' := by
  have HI := Lib.hid (indexFunc_knot 77 #[.pointer (some ⟨w.heap.size + 1, 0, none⟩)] n c b off kt kx ky kz (fun i => decide (time ≤ kt i))
    (((w.alloc (.cells #[.slice (some ⟨b, off, none⟩) n c, .int .i64 d] 24)).alloc (.cells #[.int .i64 time] 3)).alloc (.cells #[.int .i64 0, .int .i64 0, .int .i64 0, .int .i64 0] 84))
    (enters_of Try.func77 (by kernel_rfl) rfl) (by omega) (by simp; omega) (fun i hi => by have := hc i hi; simp [go_sem, this])
    (fun i w1 hi hb1 => placeAt1_any _ _ _ _ time _ w1 (by rw [hb1.cell (by first | (simp; done) | (simp; omega) | omega)]; simp [go_sem]) (by have := hb1.size; simp at this; omega)))
  rw [fidx_hit hm (by simp [hge]) (fun j hj => by have := hlt j hj; simp; omega)] at HI
  obtain ⟨e1, e2, e3, e4⟩ := hc m hm
  clear hc
  have hq : (kt m == time) = true := by simp [hge]
  clear hge hlt
  go_enter Try.func43, Try.ntmps43
  go_wp2_with (first | (go_at_call 76; refine HI.out.mono ?_; rintro e w1 ⟨rfl, hb1⟩; have g1 := (hb1.cell (p := ⟨w.heap.size, 0, none⟩) (by first | (simp; done) | (simp; omega) | omega)).trans (show _ = some (Value.slice (some ⟨b, off, none⟩) n c) by simp [go_sem, *]); have g2 := (hb1.cell (p := ⟨w.heap.size + 1, 0, none⟩) (by first | (simp; done) | (simp; omega) | omega)).trans (show _ = some (Value.int .i64 time) by simp [go_sem, *]); have f1 := (hb1.cell (p := ⟨b, off + m * 4, none⟩) (by first | (simp; done) | (simp; omega) | omega)).trans (show _ = some (Value.int .i64 (kt m)) by simp [go_sem, *]); have f2 := (hb1.cell (p := ⟨b, off + m * 4 + 1, none⟩) (by first | (simp; done) | (simp; omega) | omega)).trans (show _ = some (Value.int .i64 (kx m)) by simp [go_sem, *]); have f3 := (hb1.cell (p := ⟨b, off + m * 4 + 2, none⟩) (by first | (simp; done) | (simp; omega) | omega)).trans (show _ = some (Value.int .i64 (ky m)) by simp [go_sem, *]); have f4 := (hb1.cell (p := ⟨b, off + m * 4 + 3, none⟩) (by first | (simp; done) | (simp; omega) | omega)).trans (show _ = some (Value.int .i64 (kz m)) by simp [go_sem, *]); have x0 := (hb1.cell (p := ⟨w.heap.size + 1 + 1, 0, none⟩) (by first | (simp; done) | (simp; omega) | omega)).trans (show _ = some (Value.int .i64 0) by simp [go_sem, *]); have y0 := (hb1.frozen (p := ⟨w.heap.size + 1 + 1, 0, none⟩) (by first | (simp; done) | (simp; omega) | omega)).trans (show _ = false by simp [go_sem, *]); have x1 := (hb1.cell (p := ⟨w.heap.size + 1 + 1, 1, none⟩) (by first | (simp; done) | (simp; omega) | omega)).trans (show _ = some (Value.int .i64 0) by simp [go_sem, *]); have y1 := (hb1.frozen (p := ⟨w.heap.size + 1 + 1, 1, none⟩) (by first | (simp; done) | (simp; omega) | omega)).trans (show _ = false by simp [go_sem, *]); have x2 := (hb1.cell (p := ⟨w.heap.size + 1 + 1, 2, none⟩) (by first | (simp; done) | (simp; omega) | omega)).trans (show _ = some (Value.int .i64 0) by simp [go_sem, *]); have y2 := (hb1.frozen (p := ⟨w.heap.size + 1 + 1, 2, none⟩) (by first | (simp; done) | (simp; omega) | omega)).trans (show _ = false by simp [go_sem, *]); have x3 := (hb1.cell (p := ⟨w.heap.size + 1 + 1, 3, none⟩) (by first | (simp; done) | (simp; omega) | omega)).trans (show _ = some (Value.int .i64 0) by simp [go_sem, *]); have y3 := (hb1.frozen (p := ⟨w.heap.size + 1 + 1, 3, none⟩) (by first | (simp; done) | (simp; omega) | omega)).trans (show _ = false by simp [go_sem, *]); have HB := Lib.hid hb1; clear hb1 HI e1 e2 e3 e4) | (go_at_call 78; refine (components_any _ _ _ _).mono ?_; rintro e w1 ⟨rfl, o1, o2, rfl⟩))
  refine bodyPost_ret (v := .agg #[.int .i64 (kx m), .int .i64 (ky m), .int .i64 (kz m), .int .i64 1]) (by simp [results, Try.results43, go_sem, x0, x1, x2, x3]) rfl ⟨rfl, ?_⟩
  have hB : Below w.heap.size w w1 := (by (repeat (first | with_reducible exact Below.refl _ _ | with_reducible assumption | with_reducible refine Below.alloc ?_ (by first | (simp; done) | (simp; omega) | omega) _ | with_reducible refine Below.setCell ?_ (by first | (simp; done) | (simp; omega) | omega) _ | with_reducible refine Below.drew ?_ | with_reducible refine below_drewN ?_ _)) : Below w.heap.size w _).trans (HB.out.mono (by first | (simp; done) | (simp; omega) | omega))
  have hs := hB.size
  (repeat (first | with_reducible exact Below.refl _ _ | with_reducible assumption | with_reducible refine Below.alloc ?_ (by first | (simp; done) | (simp; omega) | omega) _ | with_reducible refine Below.setCell ?_ (by first | (simp; done) | (simp; omega) | omega) _ | with_reducible refine Below.drew ?_ | with_reducible refine below_drewN ?_ _))
end Go.Proofs.Ytmhcmiajikffpaa
