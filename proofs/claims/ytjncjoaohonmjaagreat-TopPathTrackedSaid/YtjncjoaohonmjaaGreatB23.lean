/- Helpers: the program's check of a site. No condition but the hypotheses that each theorem names. -/
import Derived.Test.YtjncjoaohonmjaaGreatB01
import Derived.Test.YtjncjoaohonmjaaGreatB19
namespace Go.Proofs.YtjncjoaohonmjaaGreat
open Go.RowKit Go.Shelf Go.Sort
attribute [local go_sem] idx3_0 idx3_1 idx3_2 old1 fro1 old2 fro2 old3 fro3 old4 fro4 old5 fro5 old6 fro6 old7 fro7 old8 fro8 old9 fro9 old10 fro10 old11 fro11 old12 fro12
set_option maxRecDepth 100000 in
set_option maxHeartbeats 800000 in
theorem checkSite_m (x y z : Int) (A : Option Addr) (n c : Nat) (k : Nat → Cone) (w : World) (h4 : n ≤ 4) (ha : axErr x y z = 0) (hk : KC w A n k) :
    Calls Tryz.prog 78 #[.agg #[.int .i64 x, .int .i64 y, .int .i64 z, .slice A n c]] w fun e w' => e = .returned (.tuple #[.int .i64 (siteRes x y z n k).1, .int .i64 (siteRes x y z n k).2]) ∧ Below w.heap.size w w' := by
  have HA := Lib.hid (fun W => (by have := checkAxis_any x y z W; rwa [ha] at this : Calls Tryz.prog 105 #[.agg #[.int .i64 x, .int .i64 y, .int .i64 z]] W fun e w' => e = .returned (.int .i64 0) ∧ Below W.heap.size W w'))
  have hs : siteRes x y z n k = coRes (coFrom k 0 n) := by
    unfold siteRes
    rw [if_pos ha, if_neg (by omega)]
  have HS := Lib.hid hs
  have HK := Lib.hid hk
  clear hs hk ha
  go_enter Tryz.func78, Tryz.ntmps78
  go_wp2_with (go_at_call 105; (with_reducible refine Calls.mono (HA.out _) ?_); rintro e w1 ⟨rfl, hb1⟩; have B1 := Lib.hid (belowT (show Below w.heap.size w _ by (repeat (first | with_reducible exact Below.refl _ _ | with_reducible assumption | with_reducible refine Below.alloc ?_ (by first | (simp; done) | (simp; omega) | omega) _ | with_reducible refine Below.setCell ?_ (by first | (simp; done) | (simp; omega) | omega) _ | with_reducible refine Below.drew ?_ | with_reducible refine below_drewN ?_ _))) hb1); have k3 := keep hb1 (b := w.heap.size) (o := 3) (v := .slice A n c) (by simp [go_sem]); clear hb1)
  go_loopw [21] (fun i wr => ∃ j : Nat, j ≤ n ∧ i = .int .i64 j ∧ Below w.heap.size w wr ∧ Hid (coFrom k 0 n = coFrom k j (n - j))) (fun i _ => n - (intOf i).toNat)
  case atStart => exact ⟨0, Nat.zero_le _, rfl, B1.out, rfl⟩
  case round =>
    obtain ⟨j, hj, rfl, hbel, H2⟩ := hrel
    have HB := Lib.hid hbel
    clear hbel k3 B1
    by_cases hlt : j < n
    · have HS2 : Hid (coFrom k j (n - j) = if coneErr (k j) = 0 then coFrom k (j + 1) (n - (j + 1)) else some (j, coneErr (k j))) := by
        rw [show n - j = (n - (j + 1)) + 1 from by omega]; rfl
      obtain ⟨b, off, rfl, hkt⟩ := (HK.out.bel HB.out) (by omega)
      obtain ⟨q0, q1, q2, q3, q4⟩ := hkt.2 j hlt
      have hbl := hkt.1
      clear hkt
      have HC := Lib.hid (fun W => checkCone_any (k j) W)
      by_cases hz0 : coneErr (k j) = 0
      · rw [hz0] at HC
        have HZ := Lib.hid hz0
        clear hz0
        go_wp2_with (go_at_call 106; (with_reducible refine Calls.mono (HC.out _) ?_); rintro e w2 ⟨rfl, hb2⟩; have B2 := Lib.hid (belowT (show Below w.heap.size w _ by have Bq := HB.out; have Bz := Bq.size; (repeat (first | with_reducible exact Below.refl _ _ | with_reducible assumption | with_reducible refine Below.alloc ?_ (by first | (simp; done) | (simp; omega) | omega) _ | with_reducible refine Below.setCell ?_ (by first | (simp; done) | (simp; omega) | omega) _ | with_reducible refine Below.drew ?_ | with_reducible refine below_drewN ?_ _))) hb2); clear hb2)
        go_roundw
        case rel => exact ⟨j + 1, by omega, by go_num, B2.out, by show coFrom k 0 n = _; rw [H2.out, HS2.out, if_pos HZ.out]⟩
        case measure => simp [intOf]; omega
      · have HZ := Lib.hid hz0
        have hq : (coneErr (k j) != 0) = true := by simpa using hz0
        clear hz0
        have hv : siteRes x y z n k = ((j : Int), coneErr (k j)) := by
          rw [HS.out, H2.out, HS2.out, if_neg HZ.out]; rfl
        have HV := Lib.hid hv
        clear hv
        generalize coneErr (k j) = ek at hq HC HV
        go_wp2_with (go_at_call 106; (with_reducible refine Calls.mono (HC.out _) ?_); rintro e w2 ⟨rfl, hb2⟩; have B2 := Lib.hid (belowT (show Below w.heap.size w _ by have Bq := HB.out; have Bz := Bq.size; (repeat (first | with_reducible exact Below.refl _ _ | with_reducible assumption | with_reducible refine Below.alloc ?_ (by first | (simp; done) | (simp; omega) | omega) _ | with_reducible refine Below.setCell ?_ (by first | (simp; done) | (simp; omega) | omega) _ | with_reducible refine Below.drew ?_ | with_reducible refine below_drewN ?_ _))) hb2); clear hb2)
        go_ret2
        exact ⟨by rw [HV.out]; rfl, B2.out⟩
    · obtain rfl : j = n := by omega
      have hv : siteRes x y z j k = (0, 0) := by
        rw [HS.out, H2.out, Nat.sub_self]; rfl
      have HV := Lib.hid hv
      clear hv
      go_wp2_with fail
      go_ret2
      exact ⟨by rw [HV.out]; rfl, HB.out⟩
set_option maxRecDepth 100000 in
set_option maxHeartbeats 400000 in
theorem checkSite_any (x y z : Int) (A : Option Addr) (n c : Nat) (k : Nat → Cone) (w : World) (hn : n ≤ 9223372036854775807) (hk : KC w A n k) :
    Calls Tryz.prog 78 #[.agg #[.int .i64 x, .int .i64 y, .int .i64 z, .slice A n c]] w fun e w' => e = .returned (.tuple #[.int .i64 (siteRes x y z n k).1, .int .i64 (siteRes x y z n k).2]) ∧ Below w.heap.size w w' := by
  have HA := Lib.hid (fun W => checkAxis_any x y z W)
  by_cases ha : axErr x y z = 0
  · by_cases h4 : n ≤ 4
    · exact checkSite_m x y z A n c k w h4 ha hk
    · have e : siteRes x y z n k = (0, 8) := by unfold siteRes; rw [if_pos ha, if_pos (by omega)]
      rw [e]
      rw [ha] at HA
      clear ha e hk
      have hg : decide ((n : Int) > 4) = true := by rw [decide_eq_true_eq]; omega
      go_enter Tryz.func78, Tryz.ntmps78
      go_wp2_with (go_at_call 105; (with_reducible refine Calls.mono (HA.out _) ?_); rintro e w1 ⟨rfl, hb1⟩; have B1 := Lib.hid (belowT (show Below w.heap.size w _ by (repeat (first | with_reducible exact Below.refl _ _ | with_reducible assumption | with_reducible refine Below.alloc ?_ (by first | (simp; done) | (simp; omega) | omega) _ | with_reducible refine Below.setCell ?_ (by first | (simp; done) | (simp; omega) | omega) _ | with_reducible refine Below.drew ?_ | with_reducible refine below_drewN ?_ _))) hb1); have k3 := keep hb1 (b := w.heap.size) (o := 3) (v := .slice A n c) (by simp [go_sem]); clear hb1)
      go_ret2
      exact ⟨rfl, B1.out⟩
  · have e : siteRes x y z n k = (0, axErr x y z) := by unfold siteRes; rw [if_neg ha]
    rw [e]
    have hq : (axErr x y z != 0) = true := by simpa using ha
    clear ha e hk
    generalize axErr x y z = E at HA hq
    go_enter Tryz.func78, Tryz.ntmps78
    go_wp2_with (go_at_call 105; (with_reducible refine Calls.mono (HA.out _) ?_); rintro e w1 ⟨rfl, hb1⟩; have B1 := Lib.hid (belowT (show Below w.heap.size w _ by (repeat (first | with_reducible exact Below.refl _ _ | with_reducible assumption | with_reducible refine Below.alloc ?_ (by first | (simp; done) | (simp; omega) | omega) _ | with_reducible refine Below.setCell ?_ (by first | (simp; done) | (simp; omega) | omega) _ | with_reducible refine Below.drew ?_ | with_reducible refine below_drewN ?_ _))) hb1); clear hb1)
    go_ret2
    exact ⟨rfl, B1.out⟩
end Go.Proofs.YtjncjoaohonmjaaGreat
namespace Go.Proofs.YtjncjoaohonmjaaGreat
open Go.RowKit Go.Shelf Go.Sort
theorem nsum3 (g : Int → Int → Int) (x y z d : Int) : nsum g x y z d 3 = g x d * g x d + g y d * g y d + g z d * g z d := by simp [nsum]
theorem sq_le {a b : Int} (h0 : 0 ≤ a) (h : a ≤ b) : a * a ≤ b * b := Int.mul_le_mul h h h0 (by omega)
theorem sq_lt_imp {a b : Int} (h0 : 0 ≤ b) (h : a * a < b * b) : a < b := by
  rcases Int.lt_or_le a b with q | q
  · exact q
  · have := sq_le h0 q; omega
theorem le_of_sq {a b : Int} (h0 : 0 ≤ b) (h : a * a ≤ b * b) : a ≤ b := by
  rcases Int.lt_or_le b a with q | q
  · have h1 : b + 1 ≤ a := q
    have h2 := sq_le (show 0 ≤ b + 1 by omega) h1
    have h3 : (b + 1) * (b + 1) = b * b + 2 * b + 1 := by rw [Int.add_mul, Int.mul_add]; omega
    omega
  · exact q
theorem nr_nn (x d : Int) : 0 ≤ nr x d := by unfold nr; omega
theorem fr_nn {x d : Int} (h : 0 ≤ d) : 0 ≤ fr x d := by unfold fr siz; omega
theorem nr_siz (x : Int) {d : Int} (h : 0 ≤ d) : nr x d * nr x d ≤ x * x := by
  have h1 : nr x d ≤ siz x := by unfold nr siz; omega
  have h2 : siz x * siz x = x * x := by unfold siz; exact Int.natAbs_mul_self' x
  rw [← h2]
  exact sq_le (nr_nn x d) h1
theorem siz_fr (x : Int) {d : Int} (h : 0 ≤ d) : x * x ≤ fr x d * fr x d := by
  have h2 : siz x * siz x = x * x := by unfold siz; exact Int.natAbs_mul_self' x
  rw [← h2]
  exact sq_le (by unfold siz; omega) (by unfold fr; omega)
theorem nsum_nr_le {x y z d : Int} (h : 0 ≤ d) : nsum nr x y z d 3 ≤ x * x + y * y + z * z := by
  rw [nsum3]
  have := nr_siz x h
  have := nr_siz y h
  have := nr_siz z h
  omega
theorem le_nsum_fr {x y z d : Int} (h : 0 ≤ d) : x * x + y * y + z * z ≤ nsum fr x y z d 3 := by
  rw [nsum3]
  have := siz_fr x h
  have := siz_fr y h
  have := siz_fr z h
  omega
theorem nsum_nr_nn (x y z d : Int) : 0 ≤ nsum nr x y z d 3 := by
  rw [nsum3]
  have := sq_nn (nr x d)
  have := sq_nn (nr y d)
  have := sq_nn (nr z d)
  omega
theorem nsum_nr_mono {x y z d d' : Int} (h : d ≤ d') : nsum nr x y z d' 3 ≤ nsum nr x y z d 3 := by
  have q : ∀ v, nr v d' * nr v d' ≤ nr v d * nr v d := fun v => sq_le (nr_nn v d') (by unfold nr; omega)
  rw [nsum3, nsum3]
  have := q x
  have := q y
  have := q z
  omega
theorem nsum_fr_mono {x y z d d' : Int} (h0 : 0 ≤ d) (h : d ≤ d') : nsum fr x y z d 3 ≤ nsum fr x y z d' 3 := by
  have q : ∀ v, fr v d * fr v d ≤ fr v d' * fr v d' := fun v => sq_le (fr_nn h0) (by unfold fr; omega)
  rw [nsum3, nsum3]
  have := q x
  have := q y
  have := q z
  omega
/-- The squares of two lengths bound the square of the length of the sum. -/
theorem cauchy (a b c x y z s t : Int) (hs : 0 ≤ s) (ht : 0 ≤ t) (h1 : a * a + b * b + c * c ≤ s * s) (h2 : x * x + y * y + z * z ≤ t * t) : a * x + b * y + c * z ≤ s * t := by
  have e : (a * a + b * b + c * c) * (x * x + y * y + z * z) = (a * x + b * y + c * z) * (a * x + b * y + c * z) + (a * y - b * x) * (a * y - b * x) + (a * z - c * x) * (a * z - c * x) + (b * z - c * y) * (b * z - c * y) := by
    simp only [Int.mul_add, Int.mul_sub, Int.mul_left_comm, Int.mul_comm]
    omega
  have n1 := sq_nn (a * y - b * x)
  have n2 := sq_nn (a * z - c * x)
  have n3 := sq_nn (b * z - c * y)
  have p1 : 0 ≤ x * x + y * y + z * z := by have := sq_nn x; have := sq_nn y; have := sq_nn z; omega
  have m1 : (a * a + b * b + c * c) * (x * x + y * y + z * z) ≤ (s * s) * (t * t) := Int.mul_le_mul h1 h2 p1 (sq_nn s)
  have m2 : (s * s) * (t * t) = (s * t) * (s * t) := by simp only [Int.mul_left_comm, Int.mul_comm]
  exact le_of_sq (Int.mul_nonneg hs ht) (by omega)
theorem triangle (a b c x y z s t : Int) (hs : 0 ≤ s) (ht : 0 ≤ t) (h1 : a * a + b * b + c * c ≤ s * s) (h2 : x * x + y * y + z * z ≤ t * t) : (a + x) * (a + x) + (b + y) * (b + y) + (c + z) * (c + z) ≤ (s + t) * (s + t) := by
  have h3 := cauchy a b c x y z s t hs ht h1 h2
  have e1 : (a + x) * (a + x) + (b + y) * (b + y) + (c + z) * (c + z) = (a * a + b * b + c * c) + (x * x + y * y + z * z) + 2 * (a * x + b * y + c * z) := by
    simp only [Int.mul_add, Int.mul_comm]
    omega
  have e2 : (s + t) * (s + t) = s * s + t * t + 2 * (s * t) := by
    simp only [Int.mul_add, Int.mul_comm]
    omega
  omega
theorem mul_le_cancel {a b c : Int} (hc : 0 < c) (h : a * c ≤ b * c) : a ≤ b := Int.le_of_mul_le_mul_right h hc
/-- Three places: the nearest distance of two is at most the sum of the farthest ones by way of the third. -/
theorem tri_places (f g h : Plc) (d1 d2 d3 lo h1 h2 : Int) (fn : 1 ≤ f.n) (gn : 1 ≤ g.n) (hn : 1 ≤ h.n) (e1 : 0 ≤ d1) (e2 : 0 ≤ d2) (e3 : 0 ≤ d3) (_ : 0 ≤ lo) (p1 : 0 ≤ h1) (p2 : 0 ≤ h2)
    (q1 : lo * vn f g * (lo * vn f g) ≤ nsum nr (vx f g) (vy f g) (vz f g) d1 3) (q2 : nsum fr (vx f h) (vy f h) (vz f h) d2 3 ≤ h1 * vn f h * (h1 * vn f h)) (q3 : nsum fr (vx h g) (vy h g) (vz h g) d3 3 ≤ h2 * vn h g * (h2 * vn h g)) : lo ≤ h1 + h2 := by
  have b1 : lo * vn f g * (lo * vn f g) ≤ vx f g * vx f g + vy f g * vy f g + vz f g * vz f g := Int.le_trans q1 (nsum_nr_le e1)
  have b2 : vx f h * vx f h + vy f h * vy f h + vz f h * vz f h ≤ h1 * vn f h * (h1 * vn f h) := Int.le_trans (le_nsum_fr e2) q2
  have b3 : vx h g * vx h g + vy h g * vy h g + vz h g * vz h g ≤ h2 * vn h g * (h2 * vn h g) := Int.le_trans (le_nsum_fr e3) q3
  have sc : ∀ (u v w s k : Int), 0 ≤ k → u * u + v * v + w * w ≤ s * s → (u * k) * (u * k) + (v * k) * (v * k) + (w * k) * (w * k) ≤ (s * k) * (s * k) := by
    intro u v w s k hk h
    have := Int.mul_le_mul_of_nonneg_right h (sq_nn k)
    have e : ∀ r : Int, (r * k) * (r * k) = r * r * (k * k) := fun r => by simp only [Int.mul_left_comm, Int.mul_comm]
    rw [e, e, e, e, ← Int.add_mul, ← Int.add_mul]
    exact this
  have c2 := sc _ _ _ _ g.n (by omega) b2
  have c3 := sc _ _ _ _ f.n (by omega) b3
  have vnn : ∀ a b : Plc, 1 ≤ a.n → 1 ≤ b.n → 0 ≤ vn a b := fun a b ha hb => Int.mul_nonneg (by omega) (by omega)
  have t := triangle _ _ _ _ _ _ _ _ (Int.mul_nonneg (Int.mul_nonneg p1 (vnn f h fn hn)) (by omega)) (Int.mul_nonneg (Int.mul_nonneg p2 (vnn h g hn gn)) (by omega)) c2 c3
  have ex : ∀ a b c n1 n2 n3 : Int, (c * n1 - a * n3) * n2 + (b * n3 - c * n2) * n1 = (b * n1 - a * n2) * n3 := by
    intro a b c n1 n2 n3
    simp only [Int.mul_sub, Int.mul_left_comm, Int.mul_comm]
    omega
  have x1 : vx f h * g.n + vx h g * f.n = vx f g * h.n := ex f.x g.x h.x f.n g.n h.n
  have x2 : vy f h * g.n + vy h g * f.n = vy f g * h.n := ex f.y g.y h.y f.n g.n h.n
  have x3 : vz f h * g.n + vz h g * f.n = vz f g * h.n := ex f.z g.z h.z f.n g.n h.n
  rw [x1, x2, x3] at t
  have en : h1 * vn f h * g.n + h2 * vn h g * f.n = (h1 + h2) * (f.n * g.n * h.n) := by
    unfold vn
    rw [Int.add_mul]
    congr 1 <;> simp only [Int.mul_left_comm, Int.mul_comm]
  rw [en] at t
  have b1' : (lo * (f.n * g.n * h.n)) * (lo * (f.n * g.n * h.n)) ≤ (vx f g * h.n) * (vx f g * h.n) + (vy f g * h.n) * (vy f g * h.n) + (vz f g * h.n) * (vz f g * h.n) := by
    have := Int.mul_le_mul_of_nonneg_right b1 (sq_nn h.n)
    have e : ∀ r : Int, (r * h.n) * (r * h.n) = r * r * (h.n * h.n) := fun r => by simp only [Int.mul_left_comm, Int.mul_comm]
    have e2 : (lo * (f.n * g.n * h.n)) * (lo * (f.n * g.n * h.n)) = lo * vn f g * (lo * vn f g) * (h.n * h.n) := by unfold vn; simp only [Int.mul_left_comm, Int.mul_comm]
    rw [e, e, e, e2, ← Int.add_mul, ← Int.add_mul]
    exact this
  have pos : 0 < f.n * g.n * h.n := Int.mul_pos (Int.mul_pos (by omega) (by omega)) (by omega)
  have fin := le_of_sq (Int.mul_nonneg (by omega) (by omega)) (Int.le_trans b1' t)
  exact mul_le_cancel pos fin

theorem RL_same {p : Int → Bool} {lo hi r r' : Int} (hm : ∀ x y, lo ≤ x → x ≤ y → p x = true → p y = true) (h : RL p lo hi r) (h' : RL p lo hi r') : r = r' := by
  obtain ⟨a1, a2, a3, a4⟩ := h
  obtain ⟨b1, b2, b3, b4⟩ := h'
  have key : ∀ x y, lo ≤ x → x < y → y ≤ hi + 1 → (y = lo ∨ p (y - 1) = false) → (x = hi + 1 ∨ p x = true) → False := by
    intro x y q0 q1 q2 q3 q4
    rcases q3 with z | z
    · omega
    · rcases q4 with u | u
      · omega
      · rw [hm x (y - 1) q0 (by omega) u] at z; cases z
  rcases Int.lt_or_le r r' with q | q
  · exact (key r r' a1 q b2 b3 a4).elim
  · rcases Int.lt_or_le r' r with q' | q'
    · exact (key r' r b1 q' a2 a3 b4).elim
    · omega
def pN (N v : Int) (e : Int) : Bool := decide (N < e * v * (e * v))
def pF (F v : Int) (e : Int) : Bool := !decide (e * v * (e * v) < F)
theorem ev_mono {v x y : Int} (hv : 0 ≤ v) (h0 : 0 ≤ x) (h : x ≤ y) : x * v * (x * v) ≤ y * v * (y * v) := sq_le (Int.mul_nonneg h0 hv) (Int.mul_le_mul_of_nonneg_right h hv)
theorem pN_mono {N v : Int} (hv : 0 ≤ v) : ∀ x y, (0 : Int) ≤ x → x ≤ y → pN N v x = true → pN N v y = true := by
  intro x y h0 h hx
  have := ev_mono hv h0 h
  simp only [pN, decide_eq_true_eq] at hx ⊢
  omega
theorem pF_mono {F v : Int} (hv : 0 ≤ v) : ∀ x y, (0 : Int) ≤ x → x ≤ y → pF F v x = true → pF F v y = true := by
  intro x y h0 h hx
  have := ev_mono hv h0 h
  simp only [pF, Bool.not_eq_true', decide_eq_false_iff_not] at hx ⊢
  omega
/-- What is known of the ends of a distance: lo and hi. -/
theorem lo_spec {N v r : Int} (hN : 0 ≤ N) (h : RL (pN N v) 0 6006000 r) : 1 ≤ r ∧ r ≤ 6006001 ∧ (r - 1) * v * ((r - 1) * v) ≤ N := by
  obtain ⟨a1, a2, a3, a4⟩ := h
  have h1 : 1 ≤ r := by
    rcases Int.lt_or_le r 1 with q | q
    · obtain rfl : r = 0 := by omega
      rcases a4 with z | z
      · omega
      · simp [pN] at z; omega
    · exact q
  refine ⟨h1, a2, ?_⟩
  rcases a3 with z | z
  · omega
  · simp only [pN, decide_eq_false_iff_not] at z; omega
theorem hi_spec {F v r : Int} (h : RL (pF F v) 0 6006000 r) : 0 ≤ r ∧ r ≤ 6006001 ∧ (r ≤ 6006000 → F ≤ r * v * (r * v)) ∧ (0 < r → (r - 1) * v * ((r - 1) * v) < F) := by
  obtain ⟨a1, a2, a3, a4⟩ := h
  refine ⟨a1, a2, fun q => ?_, fun q => ?_⟩
  · rcases a4 with z | z
    · omega
    · simp only [pF, Bool.not_eq_true', decide_eq_false_iff_not] at z; omega
  · rcases a3 with z | z
    · omega
    · simp only [pF, Bool.not_eq_false', decide_eq_true_eq] at z; exact z
theorem lo_le_hi {N F v r1 r2 : Int} (hv : 1 ≤ v) (hN : 0 ≤ N) (hNF : N ≤ F) (h1 : RL (pN N v) 0 6006000 r1) (h2 : RL (pF F v) 0 6006000 r2) : r1 - 1 ≤ r2 := by
  obtain ⟨a1, a2, a3⟩ := lo_spec hN h1
  obtain ⟨b1, b2, b3, _⟩ := hi_spec h2
  rcases Int.lt_or_le 6006000 r2 with q | q
  · omega
  · have := le_of_sq (Int.mul_nonneg b1 (by omega)) (Int.le_trans a3 (Int.le_trans hNF (b3 q)))
    exact mul_le_cancel (by omega) this
theorem lo_wider {N N' v r r' : Int} (hv : 1 ≤ v) (_ : 0 ≤ N) (hN' : 0 ≤ N') (hle : N' ≤ N) (h : RL (pN N v) 0 6006000 r) (h' : RL (pN N' v) 0 6006000 r') : r' ≤ r := by
  obtain ⟨a1, a2, a3, a4⟩ := h
  obtain ⟨b1, b2, b3⟩ := lo_spec hN' h'
  rcases a4 with z | z
  · omega
  · simp only [pN, decide_eq_true_eq] at z
    have : (r' - 1) * v * ((r' - 1) * v) < r * v * (r * v) := by omega
    have := sq_lt_imp (Int.mul_nonneg a1 (by omega)) this
    have := Int.lt_of_mul_lt_mul_right this (show (0 : Int) ≤ v by omega)
    omega
theorem hi_wider {F F' v r r' : Int} (hv : 1 ≤ v) (hle : F ≤ F') (h : RL (pF F v) 0 6006000 r) (h' : RL (pF F' v) 0 6006000 r') : r ≤ r' := by
  obtain ⟨a1, a2, a3, a4⟩ := hi_spec h
  obtain ⟨b1, b2, b3, b4⟩ := hi_spec h'
  rcases Int.lt_or_le 6006000 r' with q | q
  · omega
  · have h1 := b3 q
    rcases Int.lt_or_le 0 r with z | z
    · have h2 := a4 z
      have : (r - 1) * v * ((r - 1) * v) < r' * v * (r' * v) := by omega
      have := sq_lt_imp (Int.mul_nonneg b1 (by omega)) this
      have := Int.lt_of_mul_lt_mul_right this (show (0 : Int) ≤ v by omega)
      omega
    · omega
theorem nr_neg (x d : Int) : nr (-x) d = nr x d := by unfold nr siz; omega
theorem fr_neg (x d : Int) : fr (-x) d = fr x d := by unfold fr siz; omega
theorem vx_neg (f t : Plc) : vx t f = -vx f t := by unfold vx; omega
theorem vy_neg (f t : Plc) : vy t f = -vy f t := by unfold vy; omega
theorem vz_neg (f t : Plc) : vz t f = -vz f t := by unfold vz; omega
theorem vn_comm (f t : Plc) : vn t f = vn f t := Int.mul_comm _ _
theorem vd_comm (da db : Int) (f t : Plc) : vd db da t f = vd da db f t := by unfold vd; rw [Int.add_comm, Int.mul_comm t.n f.n]
theorem sqN_comm (A B : Trk) (s : Int) : sqN B A s s = sqN A B s s := by unfold sqN; rw [nsum3, nsum3, vd_comm, vx_neg, vy_neg, vz_neg, nr_neg, nr_neg, nr_neg]
theorem sqF_comm (A B : Trk) (s : Int) : sqF B A s s = sqF A B s s := by unfold sqF; rw [nsum3, nsum3, vd_comm, vx_neg, vy_neg, vz_neg, fr_neg, fr_neg, fr_neg]
theorem own_v (f : Plc) : vx f f = 0 ∧ vy f f = 0 ∧ vz f f = 0 := ⟨by unfold vx; omega, by unfold vy; omega, by unfold vz; omega⟩
theorem own_lo {v d r : Int} (hv : 1 ≤ v) (hd : 0 ≤ d) (h : RL (pN (nsum nr 0 0 0 d 3) v) 0 6006000 r) : r = 1 := by
  have e : nsum nr 0 0 0 d 3 = 0 := by
    rw [nsum3]
    have : nr 0 d = 0 := by unfold nr siz; omega
    rw [this]; rfl
  rw [e] at h
  refine RL_t h (by omega) (by omega) (fun x q1 q2 => ?_)
  simp only [pN, decide_eq_true_eq]
  constructor
  · intro hx
    rcases Int.lt_or_le x 1 with z | z
    · obtain rfl : x = 0 := by omega
      simp at hx
    · exact z
  · intro hx
    have := Int.mul_pos (show 0 < x by omega) (show 0 < v by omega)
    exact Int.mul_pos this this
theorem own_hi {v da r : Int} (hv : 1 ≤ v) (h0 : 0 ≤ da) (h1 : da ≤ 1000) (h : RL (pF (nsum fr 0 0 0 ((da + da) * v) 3) v) 0 6006000 r) : 2 * da ≤ r ∧ r ≤ 4 * da := by
  have e : nsum fr 0 0 0 ((da + da) * v) 3 = 3 * (2 * da * v * (2 * da * v)) := by
    rw [nsum3]
    have : fr 0 ((da + da) * v) = 2 * da * v := by
      have : da + da = 2 * da := by omega
      rw [this]; unfold fr siz; omega
    rw [this]; omega
  rw [e] at h
  obtain ⟨b1, b2, b3, b4⟩ := hi_spec h
  have hs := sq_nn (2 * da * v)
  refine ⟨?_, ?_⟩
  · rcases Int.lt_or_le r (2 * da) with q | q
    · have h3 := b3 (by omega)
      have h4 := le_of_sq (Int.mul_nonneg b1 (by omega)) (show 2 * da * v * (2 * da * v) ≤ r * v * (r * v) by omega)
      have := mul_le_cancel (show (0 : Int) < v by omega) h4
      omega
    · exact q
  · rcases Int.lt_or_le (4 * da) r with q | q
    · have h4 := b4 (by omega)
      have h5 := ev_mono (v := v) (x := 4 * da) (y := r - 1) (by omega) (by omega) (by omega)
      have h6 : 4 * da * v * (4 * da * v) = 4 * (2 * da * v * (2 * da * v)) := by
        rw [show 4 * da * v = 2 * (2 * da * v) by rw [← Int.mul_assoc, ← Int.mul_assoc]; rfl]
        generalize 2 * da * v = z
        rw [Int.mul_assoc, Int.mul_left_comm z 2 z, ← Int.mul_assoc]; rfl
      omega
    · exact q
theorem RL_exists (p : Int → Bool) : ∀ n : Nat, ∃ r, RL p 0 (n : Int) r
  | 0 => by
    cases h : p 0
    · exact ⟨1, by omega, by omega, .inr h, .inl (by omega)⟩
    · exact ⟨0, by omega, by omega, .inl rfl, .inr h⟩
  | n + 1 => by
    obtain ⟨r, h1, h2, h3, h4⟩ := RL_exists p n
    rcases h4 with z | z
    · cases h : p ((n : Int) + 1)
      · exact ⟨n + 2, by omega, by omega, .inr (by rw [show (n : Int) + 2 - 1 = n + 1 by omega]; exact h), .inl (by omega)⟩
      · exact ⟨r, h1, by omega, h3, .inr (by rw [z]; exact h)⟩
    · exact ⟨r, h1, by omega, h3, .inr z⟩
end Go.Proofs.YtjncjoaohonmjaaGreat
namespace Go.Proofs.YtjncjoaohonmjaaGreat
open Go.RowKit Go.Shelf Go.Sort
/-- A coordinate on its piece: over the piece's length. -/
def lin (a b ta tb t : Int) : Int := a * (tb - t) + b * (t - ta)
theorem lin_step (a b ta tb t : Int) : lin a b ta tb (t + 1) - lin a b ta tb t = b - a := by
  unfold lin
  rw [show tb - (t + 1) = (tb - t) - 1 by omega, show t + 1 - ta = (t - ta) + 1 by omega, Int.mul_sub, Int.mul_add]
  omega
/-- Where a track is at two successive times, by its piece. -/
theorem piece {k : Nat → Knot} {n : Nat} {d r : Int} (hv : ctErr k n d = 0) (h1 : outside r k n = false) (h2 : outside (r + 1) k n = false) :
    ∃ m, m < n ∧ 0 < m ∧ 0 < (k m).t - (k (m - 1)).t ∧ psum (k m).x (k m).y (k m).z (k (m - 1)).x (k (m - 1)).y (k (m - 1)).z 3 ≤ ((k m).t - (k (m - 1)).t) * ((k m).t - (k (m - 1)).t) ∧
      (∀ t, (t = r ∨ t = r + 1) → (plc k n t).x * ((k m).t - (k (m - 1)).t) = (plc k n t).n * lin (k (m - 1)).x (k m).x (k (m - 1)).t (k m).t t ∧ (plc k n t).y * ((k m).t - (k (m - 1)).t) = (plc k n t).n * lin (k (m - 1)).y (k m).y (k (m - 1)).t (k m).t t ∧ (plc k n t).z * ((k m).t - (k (m - 1)).t) = (plc k n t).n * lin (k (m - 1)).z (k m).z (k (m - 1)).t (k m).t t) := by
  obtain ⟨hn, hn2, hkk, hd⟩ := valid_of hv
  obtain ⟨a1, a2, a3, a4⟩ := mIdx_spec hn h1
  obtain ⟨b1, b2, b3, b4⟩ := mIdx_spec hn h2
  have h0 : 0 < mIdx k n (r + 1) := by
    rcases Nat.eq_zero_or_pos (mIdx k n (r + 1)) with z | z
    · rw [z] at b2; omega
    · exact z
  obtain ⟨s1, s2, s3⟩ := knot_step (hkk _ b1) h0
  refine ⟨mIdx k n (r + 1), b1, h0, s1, s3, ?_⟩
  have key : ∀ a b ta tb t : Int, t = tb → b * (tb - ta) = 1 * lin a b ta tb t := by
    intro a b ta tb t h; subst h; unfold lin; rw [Int.sub_self, Int.mul_zero]; omega
  have key2 : ∀ a b ta tb t : Int, t = ta → a * (tb - ta) = 1 * lin a b ta tb t := by
    intro a b ta tb t h; subst h; unfold lin; rw [Int.sub_self, Int.mul_zero]; omega
  have key3 : ∀ a b ta tb t : Int, (a * (tb - t) + b * (t - ta)) * (tb - ta) = (tb - ta) * lin a b ta tb t := by
    intro a b ta tb t; unfold lin; rw [Int.mul_comm]
  rintro t (rfl | rfl)
  · -- the earlier time
    have c1 := b3 (mIdx k n (t + 1) - 1) (by omega)
    generalize hm : mIdx k n (t + 1) = m at *
    by_cases e : (k (m - 1)).t = t
    · have hi : mIdx k n t = m - 1 := by
        rcases Nat.lt_trichotomy (mIdx k n t) (m - 1) with z | z | z
        · have := b3 (mIdx k n t) (by omega)
          have hl : (k (mIdx k n t)).t < (k (m - 1)).t := by
            have : ∀ j, mIdx k n t ≤ j → j ≤ m - 1 → (k (mIdx k n t)).t ≤ (k j).t ∧ (mIdx k n t < j → (k (mIdx k n t)).t < (k j).t) := by
              intro j
              induction j with
              | zero => intro q1 q2; have : mIdx k n t = 0 := (by omega); rw [this]; exact ⟨Int.le_refl _, fun h => by omega⟩
              | succ j ih =>
                intro q1 q2
                by_cases q : mIdx k n t = j + 1
                · rw [q]; exact ⟨Int.le_refl _, fun h => by omega⟩
                · have i1 := (ih (by omega) (by omega)).1
                  have i2 := (knot_step (hkk (j + 1) (by omega)) (by omega)).1
                  rw [Nat.add_sub_cancel] at i2
                  exact ⟨by omega, fun _ => by omega⟩
            exact (this (m - 1) (by omega) (Nat.le_refl _)).2 z
          omega
        · exact z
        · have := a3 (m - 1) z
          omega
      have hp : plc k n t = ⟨(k (m - 1)).x, (k (m - 1)).y, (k (m - 1)).z, 1⟩ := by
        unfold plc
        simp only [hi]
        rw [if_pos e]
      rw [hp]
      exact ⟨key2 _ _ _ _ _ e.symm, key2 _ _ _ _ _ e.symm, key2 _ _ _ _ _ e.symm⟩
    · have hi : mIdx k n t = m := by
        rcases Nat.lt_trichotomy (mIdx k n t) m with z | z | z
        · have hl : ∀ j, mIdx k n t ≤ j → j ≤ m - 1 → (k (mIdx k n t)).t ≤ (k j).t := by
            intro j
            induction j with
            | zero => intro q1 q2; have : mIdx k n t = 0 := (by omega); rw [this]; exact Int.le_refl _
            | succ j ih =>
              intro q1 q2
              by_cases q : mIdx k n t = j + 1
              · rw [q]; exact Int.le_refl _
              · have i1 := ih (by omega) (by omega)
                have i2 := (knot_step (hkk (j + 1) (by omega)) (by omega)).1
                rw [Nat.add_sub_cancel] at i2
                omega
          have := hl (m - 1) (by omega) (Nat.le_refl _)
          omega
        · exact z
        · have := a3 m z
          omega
      have hne : (k m).t ≠ t := by omega
      have hp : plc k n t = ⟨(k (m - 1)).x * ((k m).t - t) + (k m).x * (t - (k (m - 1)).t), (k (m - 1)).y * ((k m).t - t) + (k m).y * (t - (k (m - 1)).t), (k (m - 1)).z * ((k m).t - t) + (k m).z * (t - (k (m - 1)).t), (k m).t - (k (m - 1)).t⟩ := by
        unfold plc
        simp only [hi]
        rw [if_neg hne]
      rw [hp]
      exact ⟨key3 _ _ _ _ _, key3 _ _ _ _ _, key3 _ _ _ _ _⟩
  · generalize hm : mIdx k n (r + 1) = m at *
    by_cases e : (k m).t = r + 1
    · have hp : plc k n (r + 1) = ⟨(k m).x, (k m).y, (k m).z, 1⟩ := by
        unfold plc
        simp only [hm]
        rw [if_pos e]
      rw [hp]
      exact ⟨key _ _ _ _ _ e.symm, key _ _ _ _ _ e.symm, key _ _ _ _ _ e.symm⟩
    · have hp : plc k n (r + 1) = ⟨(k (m - 1)).x * ((k m).t - (r + 1)) + (k m).x * ((r + 1) - (k (m - 1)).t), (k (m - 1)).y * ((k m).t - (r + 1)) + (k m).y * ((r + 1) - (k (m - 1)).t), (k (m - 1)).z * ((k m).t - (r + 1)) + (k m).z * ((r + 1) - (k (m - 1)).t), (k m).t - (k (m - 1)).t⟩ := by
        unfold plc
        simp only [hm]
        rw [if_neg e]
      rw [hp]
      exact ⟨key3 _ _ _ _ _, key3 _ _ _ _ _, key3 _ _ _ _ _⟩
/-- In one tick a track moves at most half a distance. -/
def Near (g h : Plc) : Prop := 4 * ((h.x * g.n - g.x * h.n) * (h.x * g.n - g.x * h.n) + (h.y * g.n - g.y * h.n) * (h.y * g.n - g.y * h.n) + (h.z * g.n - g.z * h.n) * (h.z * g.n - g.z * h.n)) ≤ g.n * h.n * (g.n * h.n)
theorem Near.symm {g h : Plc} (q : Near g h) : Near h g := by
  unfold Near at q ⊢
  have e : ∀ a b : Int, (a - b) * (a - b) = (b - a) * (b - a) := fun a b => by rw [← Int.neg_sub b a, Int.neg_mul_neg]
  rw [e (g.x * h.n), e (g.y * h.n), e (g.z * h.n), Int.mul_comm h.n g.n]
  exact q
theorem near_of {k : Nat → Knot} {n : Nat} {d r : Int} (hv : ctErr k n d = 0) (h1 : outside r k n = false) (h2 : outside (r + 1) k n = false) : Near (plc k n r) (plc k n (r + 1)) := by
  obtain ⟨m, m1, m2, s1, s2, hp⟩ := piece hv h1 h2
  obtain ⟨gx, gy, gz⟩ := hp r (.inl rfl)
  obtain ⟨hx, hy, hz⟩ := hp (r + 1) (.inr rfl)
  generalize (k m).t - (k (m - 1)).t = L at *
  generalize plc k n r = g at *
  generalize plc k n (r + 1) = h at *
  rw [psum_sq3] at s2
  unfold sq3 at s2
  have key : ∀ (u v p q D : Int), u * L = h.n * p → v * L = g.n * q → p - q = D → (u * g.n - v * h.n) * L = g.n * h.n * D := by
    intro u v p q D e1 e2 e3
    rw [Int.sub_mul, Int.mul_right_comm, e1, Int.mul_right_comm v, e2, ← e3, Int.mul_sub, Int.mul_right_comm h.n, Int.mul_comm h.n g.n, Int.mul_right_comm g.n q]
  have x1 := key _ _ _ _ _ hx gx (lin_step _ _ _ _ _)
  have y1 := key _ _ _ _ _ hy gy (lin_step _ _ _ _ _)
  have z1 := key _ _ _ _ _ hz gz (lin_step _ _ _ _ _)
  have sq : ∀ {a b : Int}, a * L = b → a * a * (L * L) = b * b := by
    intro a b e
    rw [← e]; simp only [Int.mul_assoc, Int.mul_left_comm]
  have x2 := sq x1
  have y2 := sq y1
  have z2 := sq z1
  have pp : ∀ (N D : Int), N * D * (N * D) = N * N * (D * D) := fun N D => by simp only [Int.mul_assoc, Int.mul_left_comm]
  rw [pp] at x2 y2 z2
  unfold Near
  refine Int.le_of_mul_le_mul_right ?_ (show 0 < L * L from Int.mul_pos s1 s1)
  have s3 := Int.mul_le_mul_of_nonneg_left s2 (sq_nn (g.n * h.n))
  rw [Int.mul_assoc 4, Int.add_mul, Int.add_mul, x2, y2, z2, ← Int.mul_add, ← Int.mul_add, ← Int.mul_left_comm]
  exact s3
/-- What both nearest and farthest parts keep. -/
def Lip (q : Int → Int → Int) : Prop := (∀ x d, 0 ≤ d → 0 ≤ q x d) ∧ ∀ x d x' d' a b e : Int, 0 ≤ a → 0 ≤ b → siz (x' * a - x * b) ≤ e → d' * a = d * b → 0 ≤ d → q x' d' * a ≤ q x d * b + e
theorem siz_mul_nn (x a : Int) (h : 0 ≤ a) : siz x * a = siz (x * a) := by
  unfold siz
  rw [Int.natAbs_mul]
  have : (a.natAbs : Int) = a := by omega
  rw [Int.natCast_mul, this]
theorem lip_fr : Lip fr := ⟨fun x d h => fr_nn h, fun x d x' d' a b e ha hb he hd h0 => by
  unfold fr
  rw [Int.add_mul, Int.add_mul, siz_mul_nn _ _ ha, siz_mul_nn _ _ hb, hd]
  generalize d * b = D at *
  generalize x' * a = X' at *
  generalize x * b = X at *
  unfold siz at *
  omega⟩
theorem lip_nr : Lip nr := ⟨fun x d _ => nr_nn x d, fun x d x' d' a b e ha hb he hd h0 => by
  have m : ∀ u v : Int, 0 ≤ v → max 0 u * v = max 0 (u * v) := by
    intro u v hv
    rcases Int.le_total 0 u with z | z
    · rw [Int.max_eq_right z, Int.max_eq_right (Int.mul_nonneg z hv)]
    · rw [Int.max_eq_left z, Int.max_eq_left (Int.mul_nonpos_of_nonpos_of_nonneg z hv), Int.zero_mul]
  unfold nr
  rw [m _ _ ha, m _ _ hb, Int.sub_mul, Int.sub_mul, siz_mul_nn _ _ ha, siz_mul_nn _ _ hb, hd]
  generalize d * b = D at *
  generalize x' * a = X' at *
  generalize x * b = X at *
  unfold siz at *
  omega⟩
/-- One tick later (or earlier) a distance is at most half a distance greater. -/
theorem tick {q : Int → Int → Int} (hq : Lip q) {f g h : Plc} {da db T : Int} (hf : 1 ≤ f.n) (hg : 1 ≤ g.n) (hh : 1 ≤ h.n) (a0 : 0 ≤ da) (b0 : 0 ≤ db) (hT : 0 ≤ T) (hn : Near g h)
    (h0 : nsum q (vx f g) (vy f g) (vz f g) (vd da db f g) 3 ≤ T * vn f g * (T * vn f g)) : nsum q (vx f h) (vy f h) (vz f h) (vd da db f h) 3 ≤ (T + 1) * vn f h * ((T + 1) * vn f h) := by
  have hd : 0 ≤ vd da db f g := Int.mul_nonneg (by omega) (Int.mul_nonneg (by omega) (by omega))
  have hd' : 0 ≤ vd da db f h := Int.mul_nonneg (by omega) (Int.mul_nonneg (by omega) (by omega))
  have hde : vd da db f h * g.n = vd da db f g * h.n := by unfold vd; simp only [Int.mul_left_comm, Int.mul_comm]
  have step : ∀ u v w : Int, q (h.n * 0 + (w * f.n - u * h.n)) (vd da db f h) * g.n ≤ q (v * f.n - u * g.n) (vd da db f g) * h.n + siz (w * g.n - v * h.n) * f.n := by
    intro u v w
    refine hq.2 _ _ _ _ _ _ _ (by omega) (by omega) ?_ hde hd
    rw [siz_mul_nn _ _ (by omega)]
    have e : (h.n * 0 + (w * f.n - u * h.n)) * g.n - (v * f.n - u * g.n) * h.n = (w * g.n - v * h.n) * f.n := by
      simp only [Int.mul_zero, Int.zero_add, Int.mul_sub, Int.mul_left_comm, Int.mul_comm]
      omega
    rw [e]
    exact Int.le_refl _
  have sx := step f.x g.x h.x
  have sy := step f.y g.y h.y
  have sz := step f.z g.z h.z
  rw [Int.mul_zero, Int.zero_add] at sx sy sz
  change q (vx f h) _ * g.n ≤ q (vx f g) _ * h.n + _ at sx
  change q (vy f h) _ * g.n ≤ q (vy f g) _ * h.n + _ at sy
  change q (vz f h) _ * g.n ≤ q (vz f g) _ * h.n + _ at sz
  have nx := hq.1 (vx f h) _ hd'
  have ny := hq.1 (vy f h) _ hd'
  have nz := hq.1 (vz f h) _ hd'
  rw [nsum3] at h0 ⊢
  have sq := siz_sq
  unfold Near at hn
  rw [← sq (h.x * g.n - g.x * h.n), ← sq (h.y * g.n - g.y * h.n), ← sq (h.z * g.n - g.z * h.n)] at hn
  have px := siz_nn (h.x * g.n - g.x * h.n)
  have py := siz_nn (h.y * g.n - g.y * h.n)
  have pz := siz_nn (h.z * g.n - g.z * h.n)
  have mx := hq.1 (vx f g) _ hd
  have my := hq.1 (vy f g) _ hd
  have mz := hq.1 (vz f g) _ hd
  generalize siz (h.x * g.n - g.x * h.n) = dx at *
  generalize siz (h.y * g.n - g.y * h.n) = dy at *
  generalize siz (h.z * g.n - g.z * h.n) = dz at *
  generalize q (vx f g) (vd da db f g) = ux at *
  generalize q (vy f g) (vd da db f g) = uy at *
  generalize q (vz f g) (vd da db f g) = uz at *
  generalize q (vx f h) (vd da db f h) = tx at *
  generalize q (vy f h) (vd da db f h) = ty at *
  generalize q (vz f h) (vd da db f h) = tz at *
  unfold vn at h0 ⊢
  have hN : 0 < f.n * g.n * h.n := Int.mul_pos (Int.mul_pos (by omega) (by omega)) (by omega)
  -- twice the first vector, times h.n
  have sc : ∀ (u v w S k : Int), u * u + v * v + w * w ≤ S * S → (u * k) * (u * k) + (v * k) * (v * k) + (w * k) * (w * k) ≤ (S * k) * (S * k) := by
    intro u v w S k hh
    have := Int.mul_le_mul_of_nonneg_right hh (sq_nn k)
    have e : ∀ r : Int, (r * k) * (r * k) = r * r * (k * k) := fun r => by simp only [Int.mul_left_comm, Int.mul_comm]
    rw [e, e, e, e, ← Int.add_mul, ← Int.add_mul]
    exact this
  have A1 := sc _ _ _ _ (2 * h.n) h0
  have B0 : (2 * dx) * (2 * dx) + (2 * dy) * (2 * dy) + (2 * dz) * (2 * dz) ≤ (g.n * h.n) * (g.n * h.n) := by
    have e : ∀ r : Int, (2 * r) * (2 * r) = 4 * (r * r) := fun r => by rw [Int.mul_assoc, Int.mul_left_comm r 2 r, ← Int.mul_assoc]; rfl
    rw [e, e, e]; omega
  have B1 := sc _ _ _ _ f.n B0
  have t := triangle _ _ _ _ _ _ _ _ (Int.mul_nonneg (Int.mul_nonneg hT (Int.mul_nonneg (by omega) (by omega))) (by omega)) (Int.mul_nonneg (Int.mul_nonneg (by omega) (by omega)) (by omega)) A1 B1
  have eN : T * (f.n * g.n) * (2 * h.n) + g.n * h.n * f.n = (2 * T + 1) * (f.n * g.n * h.n) := by
    rw [Int.add_mul, Int.one_mul]
    congr 1 <;> simp only [Int.mul_assoc, Int.mul_left_comm, Int.mul_comm]
  rw [eN] at t
  have up : ∀ (a b c : Int), 0 ≤ a → a * g.n ≤ b * h.n + c * f.n → (2 * a * g.n) * (2 * a * g.n) ≤ (b * (2 * h.n) + 2 * c * f.n) * (b * (2 * h.n) + 2 * c * f.n) := by
    intro a b c ha hle
    refine sq_le (Int.mul_nonneg (by omega) (by omega)) ?_
    have e1 : 2 * a * g.n = 2 * (a * g.n) := Int.mul_assoc _ _ _
    have e2 : b * (2 * h.n) = 2 * (b * h.n) := Int.mul_left_comm _ _ _
    have e3 : 2 * c * f.n = 2 * (c * f.n) := Int.mul_assoc _ _ _
    omega
  have ux' := up _ _ _ nx sx
  have uy' := up _ _ _ ny sy
  have uz' := up _ _ _ nz sz
  have big : (2 * T + 1) * (f.n * g.n * h.n) * ((2 * T + 1) * (f.n * g.n * h.n)) ≤ 2 * (T + 1) * (f.n * g.n * h.n) * (2 * (T + 1) * (f.n * g.n * h.n)) :=
    sq_le (Int.mul_nonneg (by omega) (by omega)) (Int.mul_le_mul_of_nonneg_right (by omega) (by omega))
  have fin : (2 * tx * g.n) * (2 * tx * g.n) + (2 * ty * g.n) * (2 * ty * g.n) + (2 * tz * g.n) * (2 * tz * g.n) ≤ 2 * (T + 1) * (f.n * g.n * h.n) * (2 * (T + 1) * (f.n * g.n * h.n)) := by omega
  have pos : 0 < (2 * g.n) * (2 * g.n) := Int.mul_pos (by omega) (by omega)
  refine Int.le_of_mul_le_mul_right ?_ pos
  have e1 : ∀ r : Int, (2 * r * g.n) * (2 * r * g.n) = r * r * ((2 * g.n) * (2 * g.n)) := fun r => by simp only [Int.mul_assoc, Int.mul_left_comm, Int.mul_comm]
  have e2 : 2 * (T + 1) * (f.n * g.n * h.n) * (2 * (T + 1) * (f.n * g.n * h.n)) = (T + 1) * (f.n * h.n) * ((T + 1) * (f.n * h.n)) * ((2 * g.n) * (2 * g.n)) := by simp only [Int.mul_assoc, Int.mul_left_comm, Int.mul_comm]
  rw [e1, e1, e1, e2, ← Int.add_mul, ← Int.add_mul] at fin
  exact fin
theorem nsum_swap {q : Int → Int → Int} (hq : ∀ x d, q (-x) d = q x d) (f g : Plc) (da db : Int) : nsum q (vx g f) (vy g f) (vz g f) (vd db da g f) 3 = nsum q (vx f g) (vy f g) (vz f g) (vd da db f g) 3 := by
  rw [nsum3, nsum3, vd_comm, vx_neg, vy_neg, vz_neg, hq, hq, hq]
/-- The same with the first place a tick earlier. -/
theorem tick' {q : Int → Int → Int} (hq : Lip q) (hs : ∀ x d, q (-x) d = q x d) {f g h : Plc} {da db T : Int} (hf : 1 ≤ f.n) (hg : 1 ≤ g.n) (hh : 1 ≤ h.n) (a0 : 0 ≤ da) (b0 : 0 ≤ db) (hT : 0 ≤ T) (hn : Near f h)
    (h0 : nsum q (vx f g) (vy f g) (vz f g) (vd da db f g) 3 ≤ T * vn f g * (T * vn f g)) : nsum q (vx h g) (vy h g) (vz h g) (vd da db h g) 3 ≤ (T + 1) * vn h g * ((T + 1) * vn h g) := by
  rw [← nsum_swap hs, vn_comm]
  rw [← nsum_swap hs, vn_comm] at h0
  exact tick hq hg hf hh b0 a0 hT hn h0
end Go.Proofs.YtjncjoaohonmjaaGreat
namespace Go.Proofs.YtjncjoaohonmjaaGreat
open Go.RowKit Go.Shelf Go.Sort
/-- A valid track's own time. -/
def TIn (A : Trk) (s : Int) : Prop := ctErr A.k A.n A.d = 0 ∧ outside s A.k A.n = false
theorem TIn.n1 {A : Trk} {s : Int} (h : TIn A s) : 1 ≤ (A.p s).n := (plc_ok h.1 h.2).1.1
theorem TIn.d0 {A : Trk} {s : Int} (h : TIn A s) : 0 ≤ A.d := (valid_of h.1).2.2.2.1
theorem TIn.mid {A : Trk} {s t r : Int} (h : TIn A s) (h2 : TIn A t) (h3 : s ≤ r) (h4 : r ≤ t) : TIn A r := ⟨h.1, by
  have a := wi_t.1 (show wi s (A.k 0).t (A.k (A.n - 1)).t = true by have := h.2; unfold outside at this; simpa using this)
  have b := wi_t.1 (show wi t (A.k 0).t (A.k (A.n - 1)).t = true by have := h2.2; unfold outside at this; simpa using this)
  unfold outside
  rw [wi_t.2 ⟨by omega, by omega⟩]; rfl⟩
theorem arr_iff (A B : Trk) (s r : Int) : arrB A B s r = true ↔ sqF A B s r ≤ (r - s) * vn (A.p s) (B.p r) * ((r - s) * vn (A.p s) (B.p r)) := by
  unfold arrB
  rw [Bool.not_eq_true', decide_eq_false_iff_not]
  omega
theorem away_iff (A B : Trk) (s r : Int) : awayB A B s r = false ↔ sqN A B s r ≤ (r - s) * vn (A.p s) (B.p r) * ((r - s) * vn (A.p s) (B.p r)) := by
  unfold awayB
  rw [decide_eq_false_iff_not]
  omega
theorem arr_step {A B : Trk} {s r : Int} (hA : TIn A s) (h1 : TIn B r) (h2 : TIn B (r + 1)) (hs : s ≤ r) (h : arrB A B s r = true) : arrB A B s (r + 1) = true := by
  rw [arr_iff] at h ⊢
  rw [show r + 1 - s = r - s + 1 by omega]
  exact tick lip_fr hA.n1 h1.n1 h2.n1 hA.d0 h1.d0 (by omega) (near_of h1.1 h1.2 h2.2) h
theorem away_step {A B : Trk} {s r : Int} (hA : TIn A s) (h1 : TIn B r) (h2 : TIn B (r + 1)) (hs : s ≤ r) (h : awayB A B s r = false) : awayB A B s (r + 1) = false := by
  rw [away_iff] at h ⊢
  rw [show r + 1 - s = r - s + 1 by omega]
  exact tick lip_nr hA.n1 h1.n1 h2.n1 hA.d0 h1.d0 (by omega) (near_of h1.1 h1.2 h2.2) h
theorem arr_back {A B : Trk} {s r : Int} (hB : TIn B r) (h1 : TIn A s) (h2 : TIn A (s + 1)) (hs : s + 1 ≤ r) (h : arrB A B (s + 1) r = true) : arrB A B s r = true := by
  rw [arr_iff] at h ⊢
  rw [show r - s = r - (s + 1) + 1 by omega]
  exact tick' lip_fr fr_neg h2.n1 hB.n1 h1.n1 h1.d0 hB.d0 (by omega) (near_of h1.1 h1.2 h2.2).symm h
theorem away_back {A B : Trk} {s r : Int} (hB : TIn B r) (h1 : TIn A s) (h2 : TIn A (s + 1)) (hs : s + 1 ≤ r) (h : awayB A B (s + 1) r = false) : awayB A B s r = false := by
  rw [away_iff] at h ⊢
  rw [show r - s = r - (s + 1) + 1 by omega]
  exact tick' lip_nr nr_neg h2.n1 hB.n1 h1.n1 h1.d0 hB.d0 (by omega) (near_of h1.1 h1.2 h2.2).symm h
theorem up_ind {P : Int → Prop} {a : Int} (h0 : P a) {b : Int} (hs : ∀ x, a ≤ x → x + 1 ≤ b → P x → P (x + 1)) (hab : a ≤ b) : P b := by
  have : ∀ n : Nat, a + n ≤ b → P (a + n) := by
    intro n
    induction n with
    | zero => intro _; simpa using h0
    | succ n ih =>
      intro hn
      have := hs (a + n) (by omega) (by omega) (ih (by omega))
      rwa [show a + ((n + 1 : Nat) : Int) = a + n + 1 by omega]
  have := this (b - a).toNat (by omega)
  rwa [show a + ((b - a).toNat : Int) = b by omega] at this
theorem arr_mono {A B : Trk} {s x y : Int} (hA : TIn A s) (hs : s ≤ x) (hx : TIn B x) (hy : TIn B y) (hxy : x ≤ y) (h : arrB A B s x = true) : arrB A B s y = true :=
  up_ind (P := fun z => arrB A B s z = true) h (fun z q1 q2 q => arr_step hA (hx.mid hy q1 (by omega)) (hx.mid hy (by omega) q2) (by omega) q) hxy
theorem away_mono {A B : Trk} {s x y : Int} (hA : TIn A s) (hs : s ≤ x) (hx : TIn B x) (hy : TIn B y) (hxy : x ≤ y) (h : awayB A B s x = false) : awayB A B s y = false :=
  up_ind (P := fun z => awayB A B s z = false) h (fun z q1 q2 q => away_step hA (hx.mid hy q1 (by omega)) (hx.mid hy (by omega) q2) (by omega) q) hxy
theorem arr_down {A B : Trk} {r x y : Int} (hB : TIn B r) (hr : y ≤ r) (hx : TIn A x) (hy : TIn A y) (hxy : x ≤ y) (h : arrB A B y r = true) : arrB A B x r = true := by
  rcases hc : arrB A B x r
  · have := up_ind (P := fun z => arrB A B z r = false) hc (fun z q1 q2 q => by
      cases hz : arrB A B (z + 1) r
      · rfl
      · have := arr_back hB (hx.mid hy q1 (by omega)) (hx.mid hy (by omega) q2) (by omega) hz
        rw [q] at this; cases this) hxy
    rw [this] at h; cases h
  · rfl
theorem away_down {A B : Trk} {r x y : Int} (hB : TIn B r) (hr : y ≤ r) (hx : TIn A x) (hy : TIn A y) (hxy : x ≤ y) (h : awayB A B y r = false) : awayB A B x r = false := by
  rcases hc : awayB A B x r
  · rfl
  · have := up_ind (P := fun z => awayB A B z r = true) hc (fun z q1 q2 q => by
      cases hz : awayB A B (z + 1) r
      · have := away_back hB (hx.mid hy q1 (by omega)) (hx.mid hy (by omega) q2) (by omega) hz
        rw [q] at this; cases this
      · rfl) hxy
    rw [this] at h; cases h
end Go.Proofs.YtjncjoaohonmjaaGreat
