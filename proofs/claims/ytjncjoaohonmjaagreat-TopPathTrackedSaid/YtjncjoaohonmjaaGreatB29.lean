/- Helpers: which motions are accepted. -/
import Derived.Test.YtjncjoaohonmjaaGreatB19
namespace Go.Proofs.YtjncjoaohonmjaaGreat
open Go.RowKit Go.Shelf Go.Sort
attribute [local go_sem] idx3_0 idx3_1 idx3_2 old1 fro1 old2 fro2 old3 fro3 old4 fro4 old5 fro5 old6 fro6 old7 fro7 old8 fro8 old9 fro9 old10 fro10 old11 fro11 old12 fro12
set_option maxRecDepth 100000 in
set_option maxHeartbeats 800000 in
theorem cp1_any (ba bd : Nat) (x t lo hi st ra : Int) (w : World) (a0 : w.cell? ⟨ba, 0, none⟩ = some (.int .i64 x)) (_ : w.cell? ⟨bd, 0, none⟩ = some (.int .i64 t)) (d1 : w.cell? ⟨bd, 1, none⟩ = some (.int .i64 lo)) (d2 : w.cell? ⟨bd, 2, none⟩ = some (.int .i64 hi)) (_ : w.cell? ⟨bd, 3, none⟩ = some (.int .i64 st)) (_ : w.cell? ⟨bd, 4, none⟩ = some (.int .i64 ra)) :
    Calls Tryz.prog 47 #[.pointer (some ⟨ba, 0, none⟩), .pointer (some ⟨bd, 0, none⟩)] w fun e w' => e = .returned (.bool (wi x lo hi)) ∧ Below w.heap.size w w' := by
  go_enter Tryz.func47, Tryz.ntmps47
  go_wp2_with (go_at_call 48; (with_reducible refine (within_any _ _ _ _).mono ?_); rintro e w' ⟨rfl, rfl⟩)
  go_ret
  exact ⟨rfl, by (repeat (first | with_reducible exact Below.refl _ _ | with_reducible assumption | with_reducible refine Below.alloc ?_ (by first | (simp; done) | (simp; omega) | omega) _ | with_reducible refine Below.setCell ?_ (by first | (simp; done) | (simp; omega) | omega) _ | with_reducible refine Below.drew ?_ | with_reducible refine below_drewN ?_ _))⟩
theorem cp2_any (ba bs bi bd : Nat) (x t lo hi st ra : Int) (A : Option Addr) (n c k : Nat) (xs : Nat → Int) (w : World) (a0 : w.cell? ⟨ba, 0, none⟩ = some (.int .i64 x)) (s0 : w.cell? ⟨bs, 0, none⟩ = some (.slice A n c)) (i0 : w.cell? ⟨bi, 0, none⟩ = some (.int .i64 k)) (d0 : w.cell? ⟨bd, 0, none⟩ = some (.int .i64 t)) (d1 : w.cell? ⟨bd, 1, none⟩ = some (.int .i64 lo)) (d2 : w.cell? ⟨bd, 2, none⟩ = some (.int .i64 hi)) (d3 : w.cell? ⟨bd, 3, none⟩ = some (.int .i64 st)) (d4 : w.cell? ⟨bd, 4, none⟩ = some (.int .i64 ra))
    (hA : IA w A n xs) (hk : k < n) (hn : n ≤ 1000000) (x1 : -20000 ≤ x) (x2 : x ≤ 20000) (y1 : 0 ≤ xs k) (y2 : xs k ≤ 3600) (t1 : 1 ≤ t) (t2 : t ≤ 3600) :
    Calls Tryz.prog 49 #[.pointer (some ⟨ba, 0, none⟩), .pointer (some ⟨bs, 0, none⟩), .pointer (some ⟨bi, 0, none⟩), .pointer (some ⟨bd, 0, none⟩)] w fun e w' => e = .returned (.bool (Int.tmod (x - xs k) t == 0)) ∧ Below w.heap.size w w' := by
  obtain ⟨b, o, rfl, hc⟩ := hA (by omega)
  have q := hc k hk
  clear hc
  generalize xs k = y at *
  have p1 : (0 : Int) ≤ (k : Int) := by omega
  have p2 : (k : Int) < (n : Int) := by omega
  have u1 : IntKind.i64.wrap (x - y) = x - y := IntWalk.i64_in _ (by omega)
  have u2 : (t == 0) = false := by simp; omega
  have u3 : ¬ t = 0 := by omega
  go_enter Tryz.func49, Tryz.ntmps49
  go_wp2_with fail
  go_region_held3 (fun w' => w'.cell? ⟨ba, 0, none⟩ = some (.int .i64 x) ∧ w'.cell? ⟨bs, 0, none⟩ = some (.slice (some ⟨b, o, none⟩) n c) ∧ w'.cell? ⟨bi, 0, none⟩ = some (.int .i64 k) ∧ w'.cell? ⟨bd, 0, none⟩ = some (.int .i64 t) ∧ w'.cell? ⟨bd, 1, none⟩ = some (.int .i64 lo) ∧ w'.cell? ⟨bd, 2, none⟩ = some (.int .i64 hi) ∧ w'.cell? ⟨bd, 3, none⟩ = some (.int .i64 st) ∧ w'.cell? ⟨bd, 4, none⟩ = some (.int .i64 ra) ∧ w'.cell? ⟨b, o + k, none⟩ = some (.int .i64 y)) (simp [go_sem, *]) (first | fail)
  all_goals
    go_wp2
    go_ret
    exact ⟨rfl, by (repeat (first | with_reducible exact Below.refl _ _ | with_reducible assumption | with_reducible refine Below.alloc ?_ (by first | (simp; done) | (simp; omega) | omega) _ | with_reducible refine Below.setCell ?_ (by first | (simp; done) | (simp; omega) | omega) _ | with_reducible refine Below.drew ?_ | with_reducible refine below_drewN ?_ _))⟩
theorem cp3_any (ba bb bd : Nat) (x y t lo hi st ra : Int) (w : World) (x1 : -100000 ≤ x - y) (x2 : x - y ≤ 100000) (a0 : w.cell? ⟨ba, 0, none⟩ = some (.int .i64 x)) (b0 : w.cell? ⟨bb, 0, none⟩ = some (.int .i64 y)) (d0 : w.cell? ⟨bd, 0, none⟩ = some (.int .i64 t)) (d1 : w.cell? ⟨bd, 1, none⟩ = some (.int .i64 lo)) (d2 : w.cell? ⟨bd, 2, none⟩ = some (.int .i64 hi)) (d3 : w.cell? ⟨bd, 3, none⟩ = some (.int .i64 st)) (d4 : w.cell? ⟨bd, 4, none⟩ = some (.int .i64 ra)) :
    Calls Tryz.prog 50 #[.pointer (some ⟨ba, 0, none⟩), .pointer (some ⟨bb, 0, none⟩), .pointer (some ⟨bd, 0, none⟩)] w fun e w' => e = .returned (.bool (decide (siz (x - y) ≤ ra))) ∧ Below w.heap.size w w' := by
  have u1 : IntKind.i64.wrap (x - y) = x - y := IntWalk.i64_in _ (by omega)
  go_enter Tryz.func50, Tryz.ntmps50
  go_wp2_with fail
  go_region_held3 (fun w' => w'.cell? ⟨ba, 0, none⟩ = some (.int .i64 x) ∧ w'.cell? ⟨bb, 0, none⟩ = some (.int .i64 y) ∧ w'.cell? ⟨bd, 0, none⟩ = some (.int .i64 t) ∧ w'.cell? ⟨bd, 1, none⟩ = some (.int .i64 lo) ∧ w'.cell? ⟨bd, 2, none⟩ = some (.int .i64 hi) ∧ w'.cell? ⟨bd, 3, none⟩ = some (.int .i64 st) ∧ w'.cell? ⟨bd, 4, none⟩ = some (.int .i64 ra)) (simp [go_sem, *]) (first | (go_at_call 51; ((with_reducible refine (size_any (x - y) (by omega) (by omega) _).mono ?_); rintro e w1 ⟨rfl, rfl⟩)))
  all_goals
    go_wp2
    go_ret
    exact ⟨rfl, by (repeat (first | with_reducible exact Below.refl _ _ | with_reducible assumption | with_reducible refine Below.alloc ?_ (by first | (simp; done) | (simp; omega) | omega) _ | with_reducible refine Below.setCell ?_ (by first | (simp; done) | (simp; omega) | omega) _ | with_reducible refine Below.drew ?_ | with_reducible refine below_drewN ?_ _))⟩
/-- The error of a position x for the target y, behind the position bf. -/
def cpE (t lo hi ra x y bf : Int) : Int := if wi x lo hi then (if Int.tmod (x - y) t == 0 then (if decide (siz (x - bf) ≤ ra) then 0 else 24) else 13) else 23
theorem cpE_0 {t lo hi ra x y bf : Int} (h : cpE t lo hi ra x y bf = 0) : (lo ≤ x ∧ x ≤ hi) ∧ siz (x - bf) ≤ ra := by
  unfold cpE at h
  cases h1 : wi x lo hi <;> simp [h1] at h
  refine ⟨wi_t.1 h1, ?_⟩
  by_cases h2 : (x - y).tmod t = 0
  · rw [if_pos h2] at h
    by_cases h3 : siz (x - bf) ≤ ra
    · exact h3
    · rw [if_neg h3] at h; omega
  · rw [if_neg h2] at h; omega
theorem ret2_int {k l : IntKind} {a b a' b' : Int} (h : a = a') (h2 : b = b') : Ending.returned (.tuple #[.int k a, .int l b]) = .returned (.tuple #[.int k a', .int l b']) := by rw [h, h2]
def CKP (W : World) (L c1 e1 c2 e2 c3 e3 ba bs bi bb bd : Nat) (t lo hi st ra x bf : Int) (A : Option Addr) (n c k : Nat) : Prop :=
  (W.cell? ⟨L, 0, none⟩ = some (.func (.func 97) #[] #[.pointer (some ⟨c1, 0, none⟩), .pointer (some ⟨e1, 0, none⟩)]) ∧ W.cell? ⟨L, 1, none⟩ = some (.func (.func 97) #[] #[.pointer (some ⟨c2, 0, none⟩), .pointer (some ⟨e2, 0, none⟩)]) ∧ W.cell? ⟨L, 2, none⟩ = some (.func (.func 97) #[] #[.pointer (some ⟨c3, 0, none⟩), .pointer (some ⟨e3, 0, none⟩)])) ∧
  (W.cell? ⟨c1, 0, none⟩ = some (.func (.func 47) #[] #[.pointer (some ⟨ba, 0, none⟩), .pointer (some ⟨bd, 0, none⟩)]) ∧ W.cell? ⟨c2, 0, none⟩ = some (.func (.func 49) #[] #[.pointer (some ⟨ba, 0, none⟩), .pointer (some ⟨bs, 0, none⟩), .pointer (some ⟨bi, 0, none⟩), .pointer (some ⟨bd, 0, none⟩)]) ∧ W.cell? ⟨c3, 0, none⟩ = some (.func (.func 50) #[] #[.pointer (some ⟨ba, 0, none⟩), .pointer (some ⟨bb, 0, none⟩), .pointer (some ⟨bd, 0, none⟩)])) ∧
  (W.cell? ⟨e1, 0, none⟩ = some (.int .i64 23) ∧ W.cell? ⟨e2, 0, none⟩ = some (.int .i64 13) ∧ W.cell? ⟨e3, 0, none⟩ = some (.int .i64 24)) ∧
  (W.cell? ⟨ba, 0, none⟩ = some (.int .i64 x) ∧ W.cell? ⟨bs, 0, none⟩ = some (.slice A n c) ∧ W.cell? ⟨bi, 0, none⟩ = some (.int .i64 k) ∧ W.cell? ⟨bb, 0, none⟩ = some (.int .i64 bf)) ∧
  (W.cell? ⟨bd, 0, none⟩ = some (.int .i64 t) ∧ W.cell? ⟨bd, 1, none⟩ = some (.int .i64 lo) ∧ W.cell? ⟨bd, 2, none⟩ = some (.int .i64 hi) ∧ W.cell? ⟨bd, 3, none⟩ = some (.int .i64 st) ∧ W.cell? ⟨bd, 4, none⟩ = some (.int .i64 ra))
theorem checkP_any (W : World) (L c1 e1 c2 e2 c3 e3 ba bs bi bb bd : Nat) (t lo hi st ra x bf : Int) (A : Option Addr) (n c k : Nat) (xs : Nat → Int) (hA : IA W A n xs) (h : CKP W L c1 e1 c2 e2 c3 e3 ba bs bi bb bd t lo hi st ra x bf A n c k)
    (hk : k < n) (hn : n ≤ 1000000) (l1 : -20000 ≤ lo) (h2 : hi ≤ 20000) (b1 : -20000 ≤ bf) (b2 : bf ≤ 20000) (y1 : 0 ≤ xs k) (y2 : xs k ≤ 3600) (t1 : 1 ≤ t) (t2 : t ≤ 3600) :
    Calls Tryz.prog 29 #[.slice (some ⟨L, 0, none⟩) 3 3] W fun e w' => e = .returned (.int .i64 (cpE t lo hi ra x (xs k) bf)) ∧ Below W.heap.size W w' := by
  obtain ⟨⟨l0, l1', l2⟩, ⟨a1, a2, a3⟩, ⟨q1, q2, q3⟩, ⟨x0, s0, i0, b0⟩, ⟨d0, d1, d2, d3, d4⟩⟩ := h
  have hr : ferr (fun i => if i = 0 then (if wi x lo hi then 0 else 23) else if i = 1 then (if Int.tmod (x - xs k) t == 0 then 0 else 13) else (if decide (siz (x - bf) ≤ ra) then 0 else 24)) 0 3 = cpE t lo hi ra x (xs k) bf := by
    simp only [ferr, cpE]
    cases wi x lo hi <;> cases (Int.tmod (x - xs k) t == 0) <;> cases decide (siz (x - bf) ≤ ra) <;> rfl
  rw [← hr]
  refine firstError_any L 3 (fun i => 97) (fun i => if i = 0 then #[.pointer (some ⟨c1, 0, none⟩), .pointer (some ⟨e1, 0, none⟩)] else if i = 1 then #[.pointer (some ⟨c2, 0, none⟩), .pointer (some ⟨e2, 0, none⟩)] else #[.pointer (some ⟨c3, 0, none⟩), .pointer (some ⟨e3, 0, none⟩)])
    _ W (by omega) (lt_of l0) ?_ (fun i hj => (enters_of Tryz.func97 (by kernel_rfl) rfl)) ?_
  · intro i hj
    rcases (by omega : i = 0 ∨ i = 1 ∨ i = 2) with rfl | rfl | rfl
    · exact l0
    · exact l1'
    · exact l2
  · intro i w1 hj hz hb
    rcases (by omega : i = 0 ∨ i = 1 ∨ i = 2) with rfl | rfl | rfl
    · exact require1_any c1 e1 47 _ 23 _ w1 (keep hb a1) (keep hb q1) (lt_of (keep hb q1)) (enters_of Tryz.func47 (by kernel_rfl) rfl) (cp1_any ba bd x t lo hi st ra w1 (keep hb x0) (keep hb d0) (keep hb d1) (keep hb d2) (keep hb d3) (keep hb d4))
    · have hz0 : (if wi x lo hi then (0 : Int) else 23) = 0 := hz 0 (by omega)
      have hw : lo ≤ x ∧ x ≤ hi := by
        cases hh : wi x lo hi
        · simp [hh] at hz0
        · exact wi_t.1 hh
      exact require1_any c2 e2 49 _ 13 _ w1 (keep hb a2) (keep hb q2) (lt_of (keep hb q2)) (enters_of Tryz.func49 (by kernel_rfl) rfl) (cp2_any ba bs bi bd x t lo hi st ra A n c k xs w1 (keep hb x0) (keep hb s0) (keep hb i0) (keep hb d0) (keep hb d1) (keep hb d2) (keep hb d3) (keep hb d4) (hA.below hb) hk hn (by omega) (by omega) y1 y2 t1 t2)
    · have hz0 : (if wi x lo hi then (0 : Int) else 23) = 0 := hz 0 (by omega)
      have hw : lo ≤ x ∧ x ≤ hi := by
        cases hh : wi x lo hi
        · simp [hh] at hz0
        · exact wi_t.1 hh
      exact require1_any c3 e3 50 _ 24 _ w1 (keep hb a3) (keep hb q3) (lt_of (keep hb q3)) (enters_of Tryz.func50 (by kernel_rfl) rfl) (cp3_any ba bb bd x bf t lo hi st ra w1 (by omega) (by omega) (keep hb x0) (keep hb b0) (keep hb d0) (keep hb d1) (keep hb d2) (keep hb d3) (keep hb d4))
/-- The position before step k of a motion, and its travel so far. -/
def cbf (st : Int) (ys : Nat → Int) : Nat → Int
  | 0 => st
  | k + 1 => ys k
def ctv (st : Int) (ys : Nat → Int) : Nat → Int
  | 0 => 0
  | k + 1 => ctv st ys k + siz (ys k - cbf st ys k)
theorem ferr_hit {er : Nat → Int} {k : Nat} (hk : er k ≠ 0) : ∀ (n i : Nat), i ≤ k → k < i + n → (∀ j, i ≤ j → j < k → er j = 0) → ferr er i n = er k
  | 0, i, h1, h2, _ => by omega
  | n + 1, i, h1, h2, h => by
    by_cases hi : i = k
    · subst hi
      simp only [ferr]
      rw [if_neg hk]
    · simp only [ferr]
      rw [if_pos (h i (Nat.le_refl i) (by omega))]
      exact ferr_hit hk n (i + 1) (by omega) (by omega) (fun j h3 h4 => h j (by omega) h4)
theorem ferr_miss {er : Nat → Int} : ∀ (n i : Nat), (∀ j, i ≤ j → j < i + n → er j = 0) → ferr er i n = 0
  | 0, _, _ => rfl
  | n + 1, i, h => by
    simp only [ferr]
    rw [if_pos (h i (Nat.le_refl i) (by omega))]
    exact ferr_miss n (i + 1) (fun j h1 h2 => h j (by omega) (by omega))
def cpi (t lo hi st ra : Int) (xs ys : Nat → Int) (i : Nat) : Int := cpE t lo hi ra (ys i) (xs i) (cbf st ys i)
theorem cbf_in {t lo hi st ra : Int} {xs ys : Nat → Int} (f1 : lo ≤ st) (f2 : st ≤ hi) (k : Nat) (h : ∀ i, i < k → cpi t lo hi st ra xs ys i = 0) : lo ≤ cbf st ys k ∧ cbf st ys k ≤ hi := by
  cases k with
  | zero => exact ⟨f1, f2⟩
  | succ k => exact (cpE_0 (h k (Nat.lt_succ_self k))).1
theorem ctv_in {t lo hi st ra : Int} {xs ys : Nat → Int} (r1 : ra ≤ 40000) (k : Nat) (h : ∀ i, i < k → cpi t lo hi st ra xs ys i = 0) : 0 ≤ ctv st ys k ∧ ctv st ys k ≤ 40000 * k := by
  induction k with
  | zero => simp [ctv]
  | succ k ih =>
    have i1 := ih (fun i hi => h i (by omega))
    have i2 := (cpE_0 (h k (Nat.lt_succ_self k))).2
    have i3 := siz_nn (ys k - cbf st ys k)
    show 0 ≤ ctv st ys k + siz (ys k - cbf st ys k) ∧ ctv st ys k + siz (ys k - cbf st ys k) ≤ _
    omega
def cpTr (t lo hi st ra : Int) (n : Nat) (xs ys : Nat → Int) : Int := if ferr (cpi t lo hi st ra xs ys) 0 n = 0 then ctv st ys n else 0
theorem checkPointing_a (t lo hi st ra : Int) (A B : Option Addr) (n c m c' : Nat) (xs _ : Nat → Int) (w : World) (hn : n ≤ 9223372036854775807) (hA : IA w A n xs) (h0 : ptErr t lo hi st ra n xs ≠ 0) :
    Calls Tryz.prog 19 #[.agg #[.int .i64 t, .int .i64 lo, .int .i64 hi, .int .i64 st, .int .i64 ra], .slice A n c, .slice B m c'] w fun e w' => e = .returned (.tuple #[.int .i64 0, .int .i64 (ptErr t lo hi st ra n xs)]) ∧ Below w.heap.size w w' := by
  have HC := fun W hW => Lib.hid (checkTargets_any t lo hi st ra A n c xs W hn hW)
  have g0 : (ptErr t lo hi st ra n xs == 0) = false := by simp [h0]
  generalize ptErr t lo hi st ra n xs = P at HC g0 ⊢
  go_enter Tryz.func19, Tryz.ntmps19
  go_wp2_with (first
    | (go_at_call 42; (with_reducible refine Calls.mono (HC _ (hA.below (by (repeat (first | with_reducible exact Below.refl _ _ | with_reducible assumption | with_reducible refine Below.alloc ?_ (by first | (simp; done) | (simp; omega) | omega) _ | with_reducible refine Below.setCell ?_ (by first | (simp; done) | (simp; omega) | omega) _ | with_reducible refine Below.drew ?_ | with_reducible refine below_drewN ?_ _))))).out ?_); rintro e w1 ⟨rfl, hb1⟩; have HB1 := thenB (show Below w.heap.size w _ by (repeat (first | with_reducible exact Below.refl _ _ | with_reducible assumption | with_reducible refine Below.alloc ?_ (by first | (simp; done) | (simp; omega) | omega) _ | with_reducible refine Below.setCell ?_ (by first | (simp; done) | (simp; omega) | omega) _ | with_reducible refine Below.drew ?_ | with_reducible refine below_drewN ?_ _))) hb1)
    | fail)
  go_ret2
  exact ⟨rfl, HB1⟩
theorem checkPointing_b (t lo hi st ra : Int) (A B : Option Addr) (n c m c' : Nat) (xs _ : Nat → Int) (w : World) (hn : n ≤ 9223372036854775807) (hA : IA w A n xs) (h0 : ptErr t lo hi st ra n xs = 0) (hm : m ≠ n) :
    Calls Tryz.prog 19 #[.agg #[.int .i64 t, .int .i64 lo, .int .i64 hi, .int .i64 st, .int .i64 ra], .slice A n c, .slice B m c'] w fun e w' => e = .returned (.tuple #[.int .i64 0, .int .i64 10]) ∧ Below w.heap.size w w' := by
  have HC := fun W hW => Lib.hid (checkTargets_any t lo hi st ra A n c xs W hn hW)
  rw [h0] at HC
  have g1 : ((m : Int) != (n : Int)) = true := by simp; omega
  go_enter Tryz.func19, Tryz.ntmps19
  go_wp2_with (first
    | (go_at_call 42; (with_reducible refine Calls.mono (HC _ (hA.below (by (repeat (first | with_reducible exact Below.refl _ _ | with_reducible assumption | with_reducible refine Below.alloc ?_ (by first | (simp; done) | (simp; omega) | omega) _ | with_reducible refine Below.setCell ?_ (by first | (simp; done) | (simp; omega) | omega) _ | with_reducible refine Below.drew ?_ | with_reducible refine below_drewN ?_ _))))).out ?_); rintro e w1 ⟨rfl, hb1⟩; have s0 := (hb1.cell (p := ⟨w.heap.size + 1, 0, none⟩) (by simp)).trans (show _ = some (.slice A n c) by simp [go_sem]); have HB1 := thenB (show Below w.heap.size w _ by (repeat (first | with_reducible exact Below.refl _ _ | with_reducible assumption | with_reducible refine Below.alloc ?_ (by first | (simp; done) | (simp; omega) | omega) _ | with_reducible refine Below.setCell ?_ (by first | (simp; done) | (simp; omega) | omega) _ | with_reducible refine Below.drew ?_ | with_reducible refine below_drewN ?_ _))) hb1)
    | fail)
  go_ret2
  exact ⟨rfl, HB1⟩
theorem checkPointing_c (t lo hi st ra : Int) (A B : Option Addr) (n c _ c' : Nat) (xs ys : Nat → Int) (w : World) (hn : n ≤ 9223372036854775807) (hA : IA w A n xs) (hB : IA w B n ys) (h0 : ptErr t lo hi st ra n xs = 0) :
    Calls Tryz.prog 19 #[.agg #[.int .i64 t, .int .i64 lo, .int .i64 hi, .int .i64 st, .int .i64 ra], .slice A n c, .slice B n c'] w fun e w' => e = .returned (.tuple #[.int .i64 (cpTr t lo hi st ra n xs ys), .int .i64 (ferr (cpi t lo hi st ra xs ys) 0 n)]) ∧ Below w.heap.size w w' := by
  have HC := fun W hW => Lib.hid (checkTargets_any t lo hi st ra A n c xs W hn hW)
  rw [h0] at HC
  go_enter Tryz.func19, Tryz.ntmps19
  go_wp2_with (first
    | (go_at_call 42; (with_reducible refine Calls.mono (HC _ (hA.below (by (repeat (first | with_reducible exact Below.refl _ _ | with_reducible assumption | with_reducible refine Below.alloc ?_ (by first | (simp; done) | (simp; omega) | omega) _ | with_reducible refine Below.setCell ?_ (by first | (simp; done) | (simp; omega) | omega) _ | with_reducible refine Below.drew ?_ | with_reducible refine below_drewN ?_ _))))).out ?_); rintro e w1 ⟨rfl, hb1⟩; have s0 := (hb1.cell (p := ⟨w.heap.size + 1, 0, none⟩) (by simp)).trans (show _ = some (.slice A n c) by simp [go_sem]); have d0 := (hb1.cell (p := ⟨w.heap.size, 0, none⟩) (by simp; omega)).trans (show _ = some (.int .i64 t) by simp [go_sem]); have d1 := (hb1.cell (p := ⟨w.heap.size, 1, none⟩) (by simp; omega)).trans (show _ = some (.int .i64 lo) by simp [go_sem]); have d2 := (hb1.cell (p := ⟨w.heap.size, 2, none⟩) (by simp; omega)).trans (show _ = some (.int .i64 hi) by simp [go_sem]); have d3 := (hb1.cell (p := ⟨w.heap.size, 3, none⟩) (by simp; omega)).trans (show _ = some (.int .i64 st) by simp [go_sem]); have d4 := (hb1.cell (p := ⟨w.heap.size, 4, none⟩) (by simp; omega)).trans (show _ = some (.int .i64 ra) by simp [go_sem]); have HB1 := thenB (show Below w.heap.size w _ by (repeat (first | with_reducible exact Below.refl _ _ | with_reducible assumption | with_reducible refine Below.alloc ?_ (by first | (simp; done) | (simp; omega) | omega) _ | with_reducible refine Below.setCell ?_ (by first | (simp; done) | (simp; omega) | omega) _ | with_reducible refine Below.drew ?_ | with_reducible refine below_drewN ?_ _))) hb1)
    | fail)
  obtain ⟨hd, hn40, hx⟩ := pt_ok h0
  obtain ⟨⟨t1, t2⟩, ⟨l1, l2⟩, ⟨h1, h2⟩, ⟨r0, r1⟩, f1, f2⟩ := drive_ok hd
  have hws1 := HB1.size
  have hw1s := lt_of s0
  have HX := Lib.hid hx
  have HAH := Lib.hid hA
  have HBH := Lib.hid hB
  clear hx hA hB hb1 h0 hd HC
  go_region
  all_goals
    go_wp2_with fail
    go_loopw [9, 29] (fun s9 s29 wr => ∃ k : Nat, k ≤ n ∧ s29 = .int .i64 k ∧ s9 = .int .i64 (ctv st ys k) ∧ Below w.heap.size w wr ∧ w1.heap.size < wr.heap.size ∧
       (wr.cell? ⟨w.heap.size, 0, none⟩ = some (.int .i64 t) ∧ wr.cell? ⟨w.heap.size, 1, none⟩ = some (.int .i64 lo) ∧ wr.cell? ⟨w.heap.size, 2, none⟩ = some (.int .i64 hi) ∧ wr.cell? ⟨w.heap.size, 3, none⟩ = some (.int .i64 st) ∧ wr.cell? ⟨w.heap.size, 4, none⟩ = some (.int .i64 ra)) ∧
       wr.cell? ⟨w.heap.size + 1, 0, none⟩ = some (.slice A n c) ∧ wr.cell? ⟨w1.heap.size, 0, none⟩ = some (.int .i64 (cbf st ys k)) ∧ wr.frozen? ⟨w1.heap.size, 0, none⟩ = false ∧ Hid (∀ i, i < k → cpi t lo hi st ra xs ys i = 0)) (fun _ i _ => n - (intOf i).toNat)
    case atStart => exact ⟨0, Nat.zero_le _, rfl, rfl, by (repeat (first | with_reducible exact Below.refl _ _ | with_reducible assumption | with_reducible refine Below.alloc ?_ (by first | (simp; done) | (simp; omega) | omega) _ | with_reducible refine Below.setCell ?_ (by first | (simp; done) | (simp; omega) | omega) _ | with_reducible refine Below.drew ?_ | with_reducible refine below_drewN ?_ _)), by simp, ⟨by simp [go_sem, *], by simp [go_sem, *], by simp [go_sem, *], by simp [go_sem, *], by simp [go_sem, *]⟩, by simp [go_sem, *], by simp [go_sem, cbf], by simp [go_sem], fun i hi => absurd hi (Nat.not_lt_zero i)⟩
    case round =>
      clear d0 d1 d2 d3 d4 s0 HB1
      obtain ⟨k, hk, rfl, rfl, hbel, hws, ⟨d0, d1, d2, d3, d4⟩, s0, b0, bz, HOK⟩ := hrel
      by_cases hlt : k < n
      · obtain ⟨bB, oB, rfl, hcB⟩ := HBH.out (by omega)
        have q := keep hbel (hcB k hlt)
        clear hcB
        have hbf := cbf_in f1 f2 k HOK.out
        have htv := ctv_in r1 k HOK.out
        have hy := HX.out k hlt
        have p1 : (0 : Int) ≤ (k : Int) := by omega
        have p2 : (k : Int) < (n : Int) := by omega
        have hb0 := hbel.size
        have HI : Hid (cpi t lo hi st ra xs ys k = cpE t lo hi ra (ys k) (xs k) (cbf st ys k)) := rfl
        have HF : Hid (∀ (W : World) (L c1 e1 c2 e2 c3 e3 ba bi : Nat), Below w.heap.size w W → CKP W L c1 e1 c2 e2 c3 e3 ba (w.heap.size + 1) bi w1.heap.size w.heap.size t lo hi st ra (ys k) (cbf st ys k) A n c k →
            Calls Tryz.prog 29 #[.slice (some ⟨L, 0, none⟩) 3 3] W fun e w' => e = .returned (.int .i64 (cpE t lo hi ra (ys k) (xs k) (cbf st ys k))) ∧ Below W.heap.size W w') :=
          fun W L c1 e1 c2 e2 c3 e3 ba bi hW h => checkP_any W L c1 e1 c2 e2 c3 e3 ba (w.heap.size + 1) bi w1.heap.size w.heap.size t lo hi st ra (ys k) (cbf st ys k) A n c k xs (IA.below HAH.out (hW.mono (by omega))) h hlt (by omega) l1 h2 (by omega) (by omega) (by omega) (by omega) t1 t2
        by_cases he : cpE t lo hi ra (ys k) (xs k) (cbf st ys k) = 0
        · have hs := cpE_0 he
          have sn := siz_nn (ys k - cbf st ys k)
          have u1 : IntKind.i64.wrap (ys k - cbf st ys k) = ys k - cbf st ys k := IntWalk.i64_in _ (by omega)
          have u2 : IntKind.i64.wrap (ctv st ys k + siz (ys k - cbf st ys k)) = ctv st ys k + siz (ys k - cbf st ys k) := IntWalk.i64_in _ (by omega)
          have HE : Hid (cpi t lo hi st ra xs ys k = 0) := HI.out.trans he
          rw [he] at HF
          clear he HI
          generalize hbk : cbf st ys k = bk at *
          generalize htk : ctv st ys k = tk at *
          generalize hyk : ys k = yk at *
          have HBK := Lib.hid hbk
          have HTK := Lib.hid htk
          have HYK := Lib.hid hyk
          clear hbk htk hyk
          go_wp2_with (first
            | (go_at_call 46; refine (require_any _ _ _ _).mono ?_; rintro e w2 ⟨rfl, rfl⟩)
            | (go_at_call 29; go_loud (refine (HF.out _ (wr.heap.size + 1 + 1 + 1 + 1 + 1 + 1 + 1 + 1) (wr.heap.size + 1 + 1 + 1) (wr.heap.size + 1 + 1) (wr.heap.size + 1 + 1 + 1 + 1 + 1) (wr.heap.size + 1 + 1 + 1 + 1) (wr.heap.size + 1 + 1 + 1 + 1 + 1 + 1 + 1) (wr.heap.size + 1 + 1 + 1 + 1 + 1 + 1) (wr.heap.size + 1) wr.heap.size (by (repeat (first | with_reducible exact Below.refl _ _ | with_reducible assumption | with_reducible refine Below.alloc ?_ (by first | (simp; done) | (simp; omega) | omega) _ | with_reducible refine Below.setCell ?_ (by first | (simp; done) | (simp; omega) | omega) _ | with_reducible refine Below.drew ?_ | with_reducible refine below_drewN ?_ _))) ?_).mono ?_; (focus (refine ⟨⟨?_, ?_, ?_⟩, ⟨?_, ?_, ?_⟩, ⟨?_, ?_, ?_⟩, ⟨?_, ?_, ?_, ?_⟩, ⟨?_, ?_, ?_, ?_, ?_⟩⟩ <;> (simp [go_sem, *]; done))); rintro e w2 ⟨rfl, hb2⟩; have HW : Hid (Below wr.heap.size wr w2) := thenB (show Below wr.heap.size wr _ by (repeat (first | with_reducible exact Below.refl _ _ | with_reducible assumption | with_reducible refine Below.alloc ?_ (by first | (simp; done) | (simp; omega) | omega) _ | with_reducible refine Below.setCell ?_ (by first | (simp; done) | (simp; omega) | omega) _ | with_reducible refine Below.drew ?_ | with_reducible refine below_drewN ?_ _))) hb2; have x2 := (hb2.cell (p := ⟨wr.heap.size + 1, 0, none⟩) (by first | (simp; done) | (simp; omega) | omega)).trans (show _ = some (.int .i64 yk) by simp [go_sem]); have b2 := keep HW.out b0; have z2 := (HW.out.frozen (p := ⟨w1.heap.size, 0, none⟩) hws).trans bz; clear hb2))
            | (go_at_call 51; ((with_reducible refine (size_any (yk - bk) (by omega) (by omega) _).mono ?_); rintro e w3 ⟨rfl, rfl⟩))
            | fail)
          go_roundw
          case rel =>
            have hz2 := HW.out.size
            have hB2 := hbel.trans (HW.out.mono hb0)
            have e0 := keep HW.out d0
            have e1 := keep HW.out d1
            have e2 := keep HW.out d2
            have e3 := keep HW.out d3
            have e4 := keep HW.out d4
            have es := keep HW.out s0
            have hk1 : cbf st ys (k + 1) = yk := HYK.out
            have ht1 : ctv st ys (k + 1) = tk + siz (yk - bk) := by
              show ctv st ys k + siz (ys k - cbf st ys k) = _
              rw [HTK.out, HYK.out, HBK.out]
            refine ⟨k + 1, by omega, by go_num, by rw [ht1], hB2.setCell (show w.heap.size ≤ w1.heap.size by omega) _, by simp; omega, ⟨cell_ne e0 (by omega), cell_ne e1 (by omega), cell_ne e2 (by omega), cell_ne e3 (by omega), cell_ne e4 (by omega)⟩, cell_ne es (by omega), ?_, ?_, ?_⟩
            · rw [hk1]
              exact World.cell?_setCell_same w2 _ _ b2
            · rw [World.frozen?_setCell]
              exact z2
            · exact fun i hi => (by rcases Nat.lt_succ_iff_lt_or_eq.1 hi with h | h; exact HOK.out i h; rw [h]; exact HE.out)
          case measure => simp [intOf]; omega
        · have g0 : (cpE t lo hi ra (ys k) (xs k) (cbf st ys k) == 0) = false := by simp [he]
          have HFE := Lib.hid (HI.out ▸ ferr_hit (er := cpi t lo hi st ra xs ys) (k := k) (by rw [HI.out]; exact he) n 0 (Nat.zero_le _) (by omega) (fun j _ hj => HOK.out j hj))
          generalize cpE t lo hi ra (ys k) (xs k) (cbf st ys k) = E at *
          clear HI
          have HNE := Lib.hid he
          clear he
          go_wp2_with (first
            | (go_at_call 46; refine (require_any _ _ _ _).mono ?_; rintro e w2 ⟨rfl, rfl⟩)
            | (go_at_call 29; go_loud (refine (HF.out _ (wr.heap.size + 1 + 1 + 1 + 1 + 1 + 1 + 1 + 1) (wr.heap.size + 1 + 1 + 1) (wr.heap.size + 1 + 1) (wr.heap.size + 1 + 1 + 1 + 1 + 1) (wr.heap.size + 1 + 1 + 1 + 1) (wr.heap.size + 1 + 1 + 1 + 1 + 1 + 1 + 1) (wr.heap.size + 1 + 1 + 1 + 1 + 1 + 1) (wr.heap.size + 1) wr.heap.size (by (repeat (first | with_reducible exact Below.refl _ _ | with_reducible assumption | with_reducible refine Below.alloc ?_ (by first | (simp; done) | (simp; omega) | omega) _ | with_reducible refine Below.setCell ?_ (by first | (simp; done) | (simp; omega) | omega) _ | with_reducible refine Below.drew ?_ | with_reducible refine below_drewN ?_ _))) ?_).mono ?_; (focus (refine ⟨⟨?_, ?_, ?_⟩, ⟨?_, ?_, ?_⟩, ⟨?_, ?_, ?_⟩, ⟨?_, ?_, ?_, ?_⟩, ⟨?_, ?_, ?_, ?_, ?_⟩⟩ <;> (simp [go_sem, *]; done))); rintro e w2 ⟨rfl, hb2⟩; have HB2 := thenB (show Below w.heap.size w _ by (repeat (first | with_reducible exact Below.refl _ _ | with_reducible assumption | with_reducible refine Below.alloc ?_ (by first | (simp; done) | (simp; omega) | omega) _ | with_reducible refine Below.setCell ?_ (by first | (simp; done) | (simp; omega) | omega) _ | with_reducible refine Below.drew ?_ | with_reducible refine below_drewN ?_ _))) hb2))
            | fail)
          go_ret2
          exact ⟨ret2_int (a := 0) (b := E) (by unfold cpTr; rw [HFE.out, if_neg HNE.out]) HFE.out.symm, HB2⟩
      · obtain rfl : k = n := by omega
        go_wp2_with fail
        go_ret2
        exact ⟨ret2_int (a := ctv st ys k) (b := 0) (by unfold cpTr; rw [ferr_miss k 0 (fun j _ hj => HOK.out j (by omega)), if_pos rfl]) (ferr_miss k 0 (fun j _ hj => HOK.out j (by omega))).symm, hbel⟩
end Go.Proofs.YtjncjoaohonmjaaGreat
