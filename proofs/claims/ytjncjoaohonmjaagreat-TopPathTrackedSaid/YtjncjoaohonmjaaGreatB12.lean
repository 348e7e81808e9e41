/- Helpers: stops after none; the number of stops. -/
import Derived.Test.YtjncjoaohonmjaaGreatB10
import Derived.Test.YtjncjoaohonmjaaGreatB11
namespace Go.Proofs.YtjncjoaohonmjaaGreat
open Go.RowKit Go.Shelf Go.Sort
attribute [local go_sem] idx3_0 idx3_1 idx3_2 old1 fro1 old2 fro2 old3 fro3 old4 fro4 old5 fro5 old6 fro6 old7 fro7 old8 fro8 old9 fro9 old10 fro10 old11 fro11 old12 fro12
def cnt (t F H : Int) : Nat := if H < F then 0 else ((H - F) / t).toNat + 1
theorem cnt_of {t F H : Int} {k : Nat} (ht : 1 ≤ t) (h1 : ∀ j : Nat, j < k → F + t * j ≤ H) (h2 : H < F + t * k) : k = cnt t F H := by
  unfold cnt
  rcases k with _ | m
  · rw [if_pos (by simpa using h2)]
  · have h0 := h1 0 (by omega)
    have hm := h1 m (by omega)
    simp at h0
    rw [if_neg (by omega)]
    have e : (H - F) / t = (m : Int) := by
      apply Int.le_antisymm
      · exact Int.le_of_lt_add_one ((Int.ediv_lt_iff_lt_mul (by omega)).2 (by rw [Int.natCast_succ, Int.mul_comm] at h2; omega))
      · exact (Int.le_ediv_iff_mul_le (by omega)).2 (by rw [Int.mul_comm]; omega)
    rw [e]
    simp
set_option maxRecDepth 100000 in
set_option maxHeartbeats 2000000 in
theorem stopsAfter_0 (t lo hi st ra tg : Int) (A : Option Addr) (c : Nat) (w : World) :
    Calls Tryz.prog 114 #[.agg #[.int .i64 t, .int .i64 lo, .int .i64 hi, .int .i64 st, .int .i64 ra], .slice A 0 c, .int .i64 tg] w fun e w' => e = .returned (.slice none 0 0) ∧ Below w.heap.size w w' := by
  go_enter Tryz.func114, Tryz.ntmps114
  go_wp2_with fail
  go_ret
  exact ⟨rfl, by (repeat (first | with_reducible exact Below.refl _ _ | with_reducible assumption | with_reducible refine Below.alloc ?_ (by first | (simp; done) | (simp; omega) | omega) _ | with_reducible refine Below.setCell ?_ (by first | (simp; done) | (simp; omega) | omega) _ | with_reducible refine Below.drew ?_ | with_reducible refine below_drewN ?_ _))⟩
theorem stopsAfter_n (t lo hi st ra tg f0 fl : Int) (b off n c : Nat) (w : World) (h0 : 0 < n) (hn : n ≤ 1000000) (c0 : w.cell? ⟨b, off, none⟩ = some (.int .i64 f0)) (c1 : w.cell? ⟨b, off + (n - 1) * 2, none⟩ = some (.int .i64 fl))
    (t1 : 1 ≤ t) (t2 : t ≤ 3600) (l1 : -20000 ≤ lo) (l2 : lo ≤ 20000) (h1 : -20000 ≤ hi) (h2 : hi ≤ 20000) (f1 : -20000 ≤ f0) (f2 : f0 ≤ 20000) (f3 : -20000 ≤ fl) (f4 : fl ≤ 20000) (g1 : 0 ≤ tg) (g2 : tg ≤ 3600) :
    Calls Tryz.prog 114 #[.agg #[.int .i64 t, .int .i64 lo, .int .i64 hi, .int .i64 st, .int .i64 ra], .slice (some ⟨b, off, none⟩) n c, .int .i64 tg] w fun e w' => ∃ v, e = .returned v ∧ w'.ownsRow (w.heap.size + 1) 131 2 v (cnt t (firstAt t (max lo (f0 - t)) tg) (min hi (fl + t))) (stopL (firstAt t (max lo (f0 - t)) tg) t (cnt t (firstAt t (max lo (f0 - t)) tg) (min hi (fl + t)))) ∧ cnt t (firstAt t (max lo (f0 - t)) tg) (min hi (fl + t)) ≤ 50000 ∧ Below w.heap.size w w' :=
  (stopsAfter_o t lo hi st ra tg f0 fl _ _ b off n c w h0 hn (by simp; omega) c0 c1 rfl rfl t1 t2 l1 l2 h1 h2 f1 f2 f3 f4 g1 g2).mono (by
    rintro e w' ⟨v, k, rfl, ho, hk, ha, hl, hb⟩
    obtain rfl := cnt_of t1 ha hl
    exact ⟨v, rfl, ho, hk, hb⟩)
end Go.Proofs.YtjncjoaohonmjaaGreat
namespace Go.Proofs.YtjncjoaohonmjaaGreat
open Go.RowKit Go.Shelf Go.Sort
attribute [local go_sem] idx3_0 idx3_1 idx3_2 old1 fro1 old2 fro2 old3 fro3 old4 fro4 old5 fro5 old6 fro6 old7 fro7 old8 fro8 old9 fro9 old10 fro10 old11 fro11 old12 fro12
theorem stopL_len (F t : Int) (k : Nat) : (stopL F t k).length = k * 2 := by
  induction k with
  | zero => rfl
  | succ k ih => rw [stopL_s, List.length_append, ih]; simp; omega
theorem stopL_get (F t : Int) (k i : Nat) (hi : i < k) : (stopL F t k)[i * 2]? = some (.int .i64 (F + t * i)) ∧ (stopL F t k)[i * 2 + 1]? = some (.int .i64 0) := by
  induction k with
  | zero => omega
  | succ k ih =>
    rw [stopL_s]
    rcases Nat.lt_succ_iff_lt_or_eq.1 hi with h | h
    · obtain ⟨a, b⟩ := ih h
      rw [List.getElem?_append_left (by rw [stopL_len]; omega), List.getElem?_append_left (by rw [stopL_len]; omega)]
      exact ⟨a, b⟩
    · subst h
      rw [List.getElem?_append_right (by rw [stopL_len]; omega), List.getElem?_append_right (by rw [stopL_len]; omega), stopL_len]
      exact ⟨by simp, by simp [show i * 2 + 1 - i * 2 = 1 by omega]⟩
def nextRow (t lo hi tg : Int) (r : Int × Nat) : Int × Nat :=
  if r.2 = 0 then (0, 0) else (firstAt t (max lo (r.1 - t)) tg, cnt t (firstAt t (max lo (r.1 - t)) tg) (min hi (r.1 + t * ((r.2 - 1 : Nat) : Int) + t)))
def rowBefore (t lo hi st : Int) (xs : Nat → Int) : Nat → Int × Nat
  | 0 => (st, 1)
  | i + 1 => nextRow t lo hi (xs i) (rowBefore t lo hi st xs i)
/-- A row's stops lie within the limits. -/
def RowIn (t lo hi : Int) (r : Int × Nat) : Prop := r.2 ≤ 50000 ∧ (0 < r.2 → lo ≤ r.1 ∧ r.1 + t * ((r.2 - 1 : Nat) : Int) ≤ hi)
theorem own_get {w : World} {base g c k : Nat} {F t : Int} {e : TypeId} (h : w.ownsRow base e 2 (.slice (some ⟨g, 0, none⟩) k c) k (stopL F t k)) (i : Nat) (hi : i < k) :
    w.cell? ⟨g, 0 + i * 2, none⟩ = some (.int .i64 (F + t * i)) ∧ w.cell? ⟨g, 0 + i * 2 + 1, none⟩ = some (.int .i64 0) := by
  obtain ⟨a, b⟩ := stopL_get F t k i hi
  have ha := h.cells (g := g) rfl _ _ a
  have hb := h.cells (g := g) rfl _ _ b
  rw [show (⟨g, 0, none⟩ : Addr).add (i * 2) = ⟨g, 0 + i * 2, none⟩ from by unfold Addr.add; split <;> simp_all] at ha
  rw [show (⟨g, 0, none⟩ : Addr).add (i * 2 + 1) = ⟨g, 0 + i * 2 + 1, none⟩ from by unfold Addr.add; split <;> simp_all] at hb
  exact ⟨ha, hb⟩
theorem stopsAfter_row (t lo hi st ra tg : Int) (r : Int × Nat) (v : Value) (base : Nat) (w : World) (hr : RowIn t lo hi r) (ho : w.ownsRow base 131 2 v r.2 (stopL r.1 t r.2))
    (t1 : 1 ≤ t) (t2 : t ≤ 3600) (l1 : -20000 ≤ lo) (l2 : lo ≤ 20000) (h1 : -20000 ≤ hi) (h2 : hi ≤ 20000) (g1 : 0 ≤ tg) (g2 : tg ≤ 3600) :
    Calls Tryz.prog 114 #[.agg #[.int .i64 t, .int .i64 lo, .int .i64 hi, .int .i64 st, .int .i64 ra], v, .int .i64 tg] w fun e w' => ∃ v', e = .returned v' ∧ w'.ownsRow (w.heap.size + 1) 131 2 v' (nextRow t lo hi tg r).2 (stopL (nextRow t lo hi tg r).1 t (nextRow t lo hi tg r).2) ∧ (nextRow t lo hi tg r).2 ≤ 50000 ∧ Below w.heap.size w w' := by
  obtain ⟨F, k⟩ := r
  simp only [RowIn] at hr ho
  by_cases hk : k = 0
  · subst hk
    have e0 : nextRow t lo hi tg (F, 0) = (0, 0) := rfl
    rw [e0]
    have hv : ∃ A c, v = .slice A 0 c := by
      rcases ho.2 with ⟨rfl, _⟩ | ⟨g, cap, cur, rfl, _⟩
      · exact ⟨_, _, rfl⟩
      · exact ⟨_, _, rfl⟩
    obtain ⟨A, c, rfl⟩ := hv
    exact (stopsAfter_0 t lo hi st ra tg A c w).mono (by rintro e w' ⟨rfl, hb⟩; exact ⟨_, rfl, World.ownsRow_nil _ _ _ _, by simp, hb⟩)
  · have hv : ∃ g c, v = .slice (some ⟨g, 0, none⟩) k c := by
      rcases ho.2 with ⟨rfl, h0⟩ | ⟨g, cap, cur, rfl, _⟩
      · exact absurd h0 hk
      · exact ⟨_, _, rfl⟩
    obtain ⟨g, c, rfl⟩ := hv
    obtain ⟨hk2, hin⟩ := hr
    obtain ⟨i1, i2⟩ := hin (by omega)
    have c0 := (own_get ho 0 (by omega)).1
    have c1 := (own_get ho (k - 1) (by omega)).1
    have p1 : 0 ≤ t * ((k - 1 : Nat) : Int) := Int.mul_nonneg (by omega) (Int.natCast_nonneg _)
    have i3 : F ≤ F + t * ((k - 1 : Nat) : Int) := by omega
    have e0 : nextRow t lo hi tg (F, k) = (firstAt t (max lo (F - t)) tg, cnt t (firstAt t (max lo (F - t)) tg) (min hi (F + t * ((k - 1 : Nat) : Int) + t))) := by simp only [nextRow]; rw [if_neg hk]
    rw [e0]
    simp at c0
    generalize F + t * ((k - 1 : Nat) : Int) = fl at *
    exact stopsAfter_n t lo hi st ra tg F fl g 0 k c w (by omega) (by omega) c0 c1 t1 t2 l1 l2 h1 h2 (by omega) (by omega) (by omega) (by omega) g1 g2
theorem nextRow_in {t lo hi tg : Int} {r : Int × Nat} (t1 : 1 ≤ t) (_ : RowIn t lo hi r) (hk : (nextRow t lo hi tg r).2 ≤ 50000) : RowIn t lo hi (nextRow t lo hi tg r) := by
  refine ⟨hk, fun h0 => ?_⟩
  clear hk
  unfold nextRow at h0 ⊢
  split at h0
  · simp at h0
  · rename_i hr2
    rw [if_neg hr2]
    simp only at h0 ⊢
    obtain ⟨n1, n2⟩ := next_on t (max lo (r.1 - t) - tg) t1
    have hM : max lo (r.1 - t) ≤ firstAt t (max lo (r.1 - t)) tg := by unfold firstAt; omega
    generalize firstAt t (max lo (r.1 - t)) tg = F at *
    generalize hH : min hi (r.1 + t * ((r.2 - 1 : Nat) : Int) + t) = H at *
    have hH2 : H ≤ hi := by omega
    refine ⟨by omega, ?_⟩
    unfold cnt at h0 ⊢
    split at h0
    · simp at h0
    · rename_i hF
      rw [if_neg hF, Nat.add_sub_cancel]
      have q0 : 0 ≤ (H - F) / t := Int.ediv_nonneg (by omega) (by omega)
      rw [Int.toNat_of_nonneg q0]
      have := Int.mul_ediv_self_le (x := H - F) (k := t) (by omega)
      omega
end Go.Proofs.YtjncjoaohonmjaaGreat
namespace Go.Proofs.YtjncjoaohonmjaaGreat
open Go.RowKit Go.Shelf Go.Sort
theorem grown_setC (w : World) (a : Addr) (u : Value) : w.grownBy (w.setCell a u) (some a.block) := ⟨rfl, rfl, rfl, by simp, fun k _ hk => heap_setCell_other w a k u (fun e => hk (by rw [e]))⟩
theorem grown_below' {w w' : World} (h : Below w.heap.size w w') : w.grownBy w' none := ⟨h.os, h.tape, h.output, h.size, fun k hk _ => h.block k hk⟩
theorem own_below {w w1 : World} {base e sz n : Nat} {v : Value} {xs : List Value} (h : w.ownsRow base e sz v n xs) (hb : Below w.heap.size w w1) : w1.ownsRow base e sz v n xs := h.kept (grown_below' hb) (by cases hv : v.ownBlock <;> simp)
theorem own_set {w : World} {base e sz n : Nat} {v : Value} {xs : List Value} (h : w.ownsRow base e sz v n xs) {S i : Nat} (hS : S < base) (u : Value) : (w.setCell ⟨S, i, none⟩ u).ownsRow base e sz v n xs :=
  h.kept (grown_setC w ⟨S, i, none⟩ u) (by
    cases hv : v.ownBlock with
    | none => exact .inl rfl
    | some a => exact .inr (fun e => by cases e; have := (h.lt _ hv).1; exact absurd this (Nat.not_le.2 hS)))
theorem own_base {w : World} {base base' e sz n : Nat} {v : Value} {xs : List Value} (h : w.ownsRow base e sz v n xs) (hb : base' ≤ base) : w.ownsRow base' e sz v n xs :=
  ⟨h.1, h.2.imp id (fun ⟨g, cap, cur, e, hbg, r⟩ => ⟨g, cap, cur, e, Nat.le_trans hb hbg, r⟩)⟩
/-- k rows of stops in the block S of row values. -/
def Rows (W : World) (S k : Nat) (e : TypeId) (t : Int) (row : Nat → Int × Nat) (vs : Nat → Value) : Prop :=
  (∀ i, i < k → W.cell? ⟨S, i, none⟩ = some (vs i)) ∧ (∀ i, i < k → W.ownsRow (S + 1) e 2 (vs i) (row i).2 (stopL (row i).1 t (row i).2)) ∧ (∀ i j, i < j → j < k → ∀ a b, (vs i).ownBlock = some a → (vs j).ownBlock = some b → a < b)
theorem Rows.next {W W2 : World} {S k : Nat} {e : TypeId} {t : Int} {row : Nat → Int × Nat} {vs g : Nat → Value} {v : Value} (h : Rows W S k e t row vs) (hS : S < W.heap.size) (hb : Below W.heap.size W W2) (hv : W2.ownsRow (W.heap.size + 1) e 2 v (row k).2 (stopL (row k).1 t (row k).2)) (hc : ∃ u, W2.cell? (⟨S, k, Option.none⟩ : Addr) = some u)
    (g1 : ∀ i, i < k → g i = vs i) (g2 : g k = v) : Rows (W2.setCell (⟨S, k, Option.none⟩ : Addr) v) S (k + 1) e t row g := by
  obtain ⟨h1, h2, h3⟩ := h
  refine ⟨fun i hi => ?_, fun i hi => ?_, fun i j hij hj a b ha hb' => ?_⟩
  · by_cases hk : i < k
    · rw [g1 i hk, World.cell?_setCell_other (h := by intro e; have := congrArg Addr.off e; simp at this; omega)]
      exact (hb.cell (p := (⟨S, i, Option.none⟩ : Addr)) hS).trans (h1 i hk)
    · obtain rfl : i = k := by omega
      rw [g2]
      obtain ⟨u, hu⟩ := hc
      exact World.cell?_setCell_same W2 _ v hu
  · by_cases hk : i < k
    · rw [g1 i hk]
      exact own_set (own_below (h2 i hk) hb) (Nat.lt_succ_self S) v
    · obtain rfl : i = k := by omega
      rw [g2]
      exact own_set (own_base hv (by omega)) (Nat.lt_succ_self S) v
  · by_cases hk : j < k
    · rw [g1 i (by omega)] at ha
      rw [g1 j hk] at hb'
      exact h3 i j hij hk a b ha hb'
    · have hi : i < k := by omega
      obtain rfl : j = k := by omega
      rw [g1 i hi] at ha
      rw [g2] at hb'
      have := ((h2 i hi).lt _ ha).2
      have := (hv.lt _ hb').1
      omega
end Go.Proofs.YtjncjoaohonmjaaGreat
namespace Go.Proofs.YtjncjoaohonmjaaGreat
open Go.RowKit Go.Shelf Go.Sort
def sA : Value → Option Addr
  | .slice A _ _ => A
  | _ => none
def sC : Value → Nat
  | .slice _ _ c => c
  | _ => 0
def sG (v : Value) : Nat := ((sA v).map Addr.block).getD 0
theorem own_parts {w : World} {base e sz n : Nat} {v : Value} {xs : List Value} (h : w.ownsRow base e sz v n xs) : v = .slice (sA v) n (sC v) ∧ (0 < n → sA v = some ⟨sG v, 0, none⟩ ∧ v.ownBlock = some (sG v)) := by
  rcases h.2 with ⟨rfl, rfl⟩ | ⟨g, cap, cur, rfl, _⟩
  · exact ⟨rfl, fun h => absurd h (Nat.lt_irrefl 0)⟩
  · exact ⟨rfl, fun _ => ⟨rfl, rfl⟩⟩
theorem cell_ne {w : World} {b o b' o' : Nat} {u v : Value} (h : w.cell? ⟨b, o, none⟩ = some v) (hn : b' = b → o' = o → False) : (w.setCell ⟨b', o', none⟩ u).cell? ⟨b, o, none⟩ = some v :=
  (World.cell?_setCell_other w ⟨b', o', none⟩ ⟨b, o, none⟩ u (fun e => hn (congrArg Addr.block e) (congrArg Addr.off e))).trans h
theorem frozen_own {w1 : World} {base e sz g n c : Nat} {xs : List Value} (h : w1.ownsRow base e sz (.slice (some ⟨g, 0, none⟩) n c) n xs) (i : Nat) : w1.frozen? ⟨g, i, none⟩ = false := by
  rcases h.2 with ⟨h0, _⟩ | ⟨g', cap, cur, h0, _, hg, _⟩
  · simp at h0
  · simp at h0
    obtain ⟨rfl, _⟩ := h0
    simp [World.frozen?, hg]
/-- n rows of stops: the block S holds their row values; row i has kk i stops a i j, each with what is left to travel from it, r i j. -/
def RR (W : World) (S n : Nat) (A : Nat → Option Addr) (c kk g : Nat → Nat) (a r : Nat → Nat → Int) : Prop :=
  (∀ i, i < n → W.cell? ⟨S, i, none⟩ = some (.slice (A i) (kk i) (c i))) ∧
  (∀ i, i < n → 0 < kk i → A i = some ⟨g i, 0, none⟩ ∧ S < g i ∧ ∀ j, j < kk i → W.cell? ⟨g i, 0 + j * 2, none⟩ = some (.int .i64 (a i j)) ∧ W.cell? ⟨g i, 0 + j * 2 + 1, none⟩ = some (.int .i64 (r i j)) ∧ W.frozen? ⟨g i, 0 + j * 2 + 1, none⟩ = false) ∧
  (∀ i j, i < j → j < n → 0 < kk i → 0 < kk j → g i < g j)
theorem RR.of_rows {W : World} {S n : Nat} {e : TypeId} {t : Int} {row : Nat → Int × Nat} {vs : Nat → Value} (h : Rows W S n e t row vs) :
    RR W S n (fun i => sA (vs i)) (fun i => sC (vs i)) (fun i => (row i).2) (fun i => sG (vs i)) (fun i j => (row i).1 + t * j) (fun _ _ => 0) := by
  obtain ⟨h1, h2, h3⟩ := h
  refine ⟨fun i hi => (h1 i hi).trans (congrArg some (own_parts (h2 i hi)).1), fun i hi h0 => ?_, fun i j hij hj h0 h0' => ?_⟩
  · obtain ⟨e1, e2⟩ := own_parts (h2 i hi)
    obtain ⟨e3, e4⟩ := e2 h0
    have ho := h2 i hi
    refine ⟨e3, (ho.lt _ e4).1, fun j hj => ?_⟩
    rw [e1, e3] at ho
    obtain ⟨q1, q2⟩ := own_get ho j hj
    exact ⟨q1, q2, frozen_own ho _⟩
  · exact h3 i j hij hj _ _ ((own_parts (h2 i (by omega))).2 h0).2 ((own_parts (h2 j hj)).2 h0').2
theorem RR.below {W W' : World} {S n : Nat} {A : Nat → Option Addr} {c kk g : Nat → Nat} {a r : Nat → Nat → Int} (h : RR W S n A c kk g a r) (hb : Below W.heap.size W W') : RR W' S n A c kk g a r := by
  obtain ⟨h1, h2, h3⟩ := h
  refine ⟨fun i hi => keep hb (h1 i hi), fun i hi h0 => ?_, h3⟩
  obtain ⟨e1, e2, e3⟩ := h2 i hi h0
  refine ⟨e1, e2, fun j hj => ?_⟩
  obtain ⟨q1, q2, q3⟩ := e3 j hj
  exact ⟨keep hb q1, keep hb q2, (hb.frozen (p := ⟨g i, 0 + j * 2 + 1, none⟩) (lt_of q2)).trans q3⟩
theorem RR.congr {W : World} {S n : Nat} {A : Nat → Option Addr} {c kk g : Nat → Nat} {a r r' : Nat → Nat → Int} (h : RR W S n A c kk g a r) (he : ∀ i j, i < n → j < kk i → r i j = r' i j) : RR W S n A c kk g a r' := by
  obtain ⟨h1, h2, h3⟩ := h
  refine ⟨h1, fun i hi h0 => ?_, h3⟩
  obtain ⟨e1, e2, e3⟩ := h2 i hi h0
  refine ⟨e1, e2, fun j hj => ?_⟩
  obtain ⟨q1, q2, q3⟩ := e3 j hj
  exact ⟨q1, by rw [← he i j hi hj]; exact q2, q3⟩
theorem RR.set {W : World} {S n : Nat} {A : Nat → Option Addr} {c kk g : Nat → Nat} {a r r' : Nat → Nat → Int} (h : RR W S n A c kk g a r) {i j : Nat} {v : Int} (hi : i < n) (hj : j < kk i)
    (hv : r' i j = v) (he : ∀ i' j', ¬ (i' = i ∧ j' = j) → r' i' j' = r i' j') : RR (W.setCell ⟨g i, 0 + j * 2 + 1, none⟩ (.int .i64 v)) S n A c kk g a r' := by
  obtain ⟨h1, h2, h3⟩ := h
  obtain ⟨_, s0, c0⟩ := h2 i hi (by omega)
  refine ⟨fun i' hi' => ?_, fun i' hi' h0 => ?_, h3⟩
  · exact cell_ne (h1 i' hi') (by omega)
  · obtain ⟨e1, e2, e3⟩ := h2 i' hi' h0
    refine ⟨e1, e2, fun j' hj' => ?_⟩
    obtain ⟨q1, q2, q3⟩ := e3 j' hj'
    have hne : ¬ (i' = i) → g i' ≠ g i := by
      intro hx
      rcases Nat.lt_or_gt_of_ne hx with hlt | hlt
      · have := h3 i' i hlt hi h0 (by omega); omega
      · have := h3 i i' hlt hi' (by omega) h0; omega
    refine ⟨?_, ?_, by rw [World.frozen?_setCell]; exact q3⟩
    · exact cell_ne q1 (by omega)
    · by_cases hx : i' = i ∧ j' = j
      · obtain ⟨rfl, rfl⟩ := hx
        rw [hv]
        exact World.cell?_setCell_same W _ _ q2
      · rw [he i' j' hx]
        refine cell_ne q2 (fun eb eo => ?_)
        by_cases hi2 : i' = i
        · exact hx ⟨hi2, by omega⟩
        · exact hne hi2 eb.symm
/-- What is left to travel from the stops of the row that has d rows behind it. -/
def rst (ra : Int) (n : Nat) (kk : Nat → Nat) (a : Nat → Nat → Int) : Nat → Nat → Int
  | 0 => fun _ => 0
  | d + 1 => fun j => mr ra (a (n - 1 - (d + 1)) j) (a (n - 1 - d)) (rst ra n kk a d) (kk (n - 1 - d))
def RE (ra : Int) (n : Nat) (kk : Nat → Nat) (a : Nat → Nat → Int) (i j : Nat) : Int := rst ra n kk a (n - 1 - i) j
theorem RE_last (ra : Int) {n : Nat} (kk : Nat → Nat) (a : Nat → Nat → Int) {i : Nat} (h : n ≤ i + 1) (j : Nat) : RE ra n kk a i j = 0 := by
  unfold RE
  rw [show n - 1 - i = 0 by omega]
  rfl
theorem RE_step (ra : Int) {n : Nat} (kk : Nat → Nat) (a : Nat → Nat → Int) {i : Nat} (h : i + 1 < n) (j : Nat) : RE ra n kk a i j = mr ra (a i j) (a (i + 1)) (RE ra n kk a (i + 1)) (kk (i + 1)) := by
  unfold RE
  rw [show n - 1 - i = (n - 1 - (i + 1)) + 1 by omega]
  show mr ra (a (n - 1 - (n - 1 - (i + 1) + 1)) j) (a (n - 1 - (n - 1 - (i + 1)))) _ (kk (n - 1 - (n - 1 - (i + 1)))) = _
  rw [show n - 1 - (n - 1 - (i + 1) + 1) = i by omega, show n - 1 - (n - 1 - (i + 1)) = i + 1 by omega]
theorem tv_bd {ra fr a r B : Int} (_ : 0 ≤ B) (h1 : -1 ≤ r) (h2 : r ≤ B) : -1 ≤ tv ra fr a r ∧ (tv ra fr a r ≤ B + ra ∨ tv ra fr a r = -1) := by
  have := siz_nn (a - fr)
  unfold tv
  split <;> omega
theorem mr_bd {ra fr B : Int} {a r : Nat → Int} {n : Nat} (h0 : 0 ≤ B) (h : ∀ k, k < n → -1 ≤ r k ∧ r k ≤ B) : -1 ≤ mr ra fr a r n ∧ (mr ra fr a r n ≤ B + ra ∨ mr ra fr a r n = -1) := by
  induction n with
  | zero => simp [mr]
  | succ n ih =>
    have i1 := ih (fun k hk => h k (by omega))
    have i2 := tv_bd (ra := ra) (fr := fr) (a := a n) h0 (h n (by omega)).1 (h n (by omega)).2
    simp only [mr, mrStep]
    split <;> omega
theorem rst_bd {ra : Int} {n : Nat} {kk : Nat → Nat} {a : Nat → Nat → Int} (h0 : 0 ≤ ra) (h1 : ra ≤ 40000) (d j : Nat) : -1 ≤ rst ra n kk a d j ∧ rst ra n kk a d j ≤ 40000 * d := by
  induction d generalizing j with
  | zero => simp [rst]
  | succ d ih =>
    have := mr_bd (ra := ra) (fr := a (n - 1 - (d + 1)) j) (a := a (n - 1 - d)) (r := rst ra n kk a d) (n := kk (n - 1 - d)) (B := 40000 * d) (by omega) (fun k _ => ih k)
    show -1 ≤ mr ra (a (n - 1 - (d + 1)) j) (a (n - 1 - d)) (rst ra n kk a d) (kk (n - 1 - d)) ∧ mr ra (a (n - 1 - (d + 1)) j) (a (n - 1 - d)) (rst ra n kk a d) (kk (n - 1 - d)) ≤ _
    omega
theorem RE_bd {ra : Int} {n : Nat} {kk : Nat → Nat} {a : Nat → Nat → Int} (hn : n ≤ 64) (h0 : 0 ≤ ra) (h1 : ra ≤ 40000) (i j : Nat) : -1 ≤ RE ra n kk a i j ∧ RE ra n kk a i j ≤ 100000000 := by
  have := rst_bd (n := n) (kk := kk) (a := a) h0 h1 (n - 1 - i) j
  unfold RE
  omega
theorem RR.row {W : World} {S n : Nat} {A : Nat → Option Addr} {c kk g : Nat → Nat} {a r : Nat → Nat → Int} (h : RR W S n A c kk g a r) {i : Nat} (hi : i < n) : 0 < kk i → A i = some ⟨g i, 0, none⟩ ∧ ∀ j, j < kk i → W.cell? ⟨g i, 0 + j * 2, none⟩ = some (.int .i64 (a i j)) ∧ W.cell? ⟨g i, 0 + j * 2 + 1, none⟩ = some (.int .i64 (r i j)) := fun h0 => by
  obtain ⟨e1, _, e3⟩ := h.2.1 i hi h0
  exact ⟨e1, fun j hj => ⟨(e3 j hj).1, (e3 j hj).2.1⟩⟩
set_option maxRecDepth 100000 in
set_option maxHeartbeats 800000 in
theorem minimumRest_0 (t lo hi st ra fr : Int) (A : Option Addr) (c : Nat) (w : World) :
    Calls Tryz.prog 91 #[.agg #[.int .i64 t, .int .i64 lo, .int .i64 hi, .int .i64 st, .int .i64 ra], .int .i64 fr, .slice A 0 c] w fun e w' => e = .returned (.int .i64 (-1)) ∧ Below w.heap.size w w' := by
  go_enter Tryz.func91, Tryz.ntmps91
  go_wp2_with fail
  go_loopw [7, 13] (fun s7 i wr => i = .int .i64 0 ∧ s7 = .int .i64 (-1) ∧ Below w.heap.size w wr) (fun _ i _ => 0)
  case atStart => exact ⟨rfl, rfl, by (repeat (first | with_reducible exact Below.refl _ _ | with_reducible assumption | with_reducible refine Below.alloc ?_ (by first | (simp; done) | (simp; omega) | omega) _ | with_reducible refine Below.setCell ?_ (by first | (simp; done) | (simp; omega) | omega) _ | with_reducible refine Below.drew ?_ | with_reducible refine below_drewN ?_ _))⟩
  case round =>
    obtain ⟨rfl, rfl, hbel⟩ := hrel
    go_wp2
    go_ret
    exact ⟨rfl, hbel⟩
theorem minimumRest_any (t lo hi st ra fr : Int) (A : Option Addr) (g n c : Nat) (at_ re : Nat → Int) (w : World) (hn : n ≤ 1000000)
    (hc : 0 < n → A = some ⟨g, 0, none⟩ ∧ ∀ j, j < n → w.cell? ⟨g, 0 + j * 2, none⟩ = some (.int .i64 (at_ j)) ∧ w.cell? ⟨g, 0 + j * 2 + 1, none⟩ = some (.int .i64 (re j)))
    (hr : ∀ i, i < n → (-100000 ≤ at_ i - fr ∧ at_ i - fr ≤ 100000) ∧ (-1 ≤ re i ∧ re i ≤ 100000000)) :
    Calls Tryz.prog 91 #[.agg #[.int .i64 t, .int .i64 lo, .int .i64 hi, .int .i64 st, .int .i64 ra], .int .i64 fr, .slice A n c] w fun e w' => e = .returned (.int .i64 (mr ra fr at_ re n)) ∧ Below w.heap.size w w' := by
  rcases Nat.eq_zero_or_pos n with h0 | h0
  · subst h0
    exact minimumRest_0 t lo hi st ra fr A c w
  · obtain ⟨rfl, hc2⟩ := hc h0
    exact minimumRest_m t lo hi st ra fr g 0 n c at_ re w hn (lt_of (hc2 0 h0).1) hc2 hr
end Go.Proofs.YtjncjoaohonmjaaGreat
namespace Go.Proofs.YtjncjoaohonmjaaGreat
open Go.RowKit Go.Shelf Go.Sort
attribute [local go_sem] idx3_0 idx3_1 idx3_2 old1 fro1 old2 fro2 old3 fro3 old4 fro4 old5 fro5 old6 fro6 old7 fro7 old8 fro8 old9 fro9 old10 fro10 old11 fro11 old12 fro12
theorem infoStops : (Tryz.prog.info? 127).map (fun i => (i.zero, i.size, i.bytes)) = some (some (.slice none 0 0), 1, 24) := by kernel_rfl
theorem below_none {w w1 : World} (h : w.grownBy w1 none) : Below w.heap.size w w1 := (Below.refl _ _).grown h (Nat.le_refl _) (fun _ h => by cases h)
theorem own_slice {w : World} {base e sz n : Nat} {v : Value} {xs : List Value} (h : w.ownsRow base e sz v n xs) : ∃ A c, v = .slice A n c := by
  rcases h.2 with ⟨rfl, rfl⟩ | ⟨g, cap, cur, rfl, _⟩
  · exact ⟨_, _, rfl⟩
  · exact ⟨_, _, rfl⟩
theorem some_set {w : World} {S i j : Nat} {u v : Value} (h : w.cell? ⟨S, i, none⟩ = some u) (hj : ∃ x, w.cell? ⟨S, j, none⟩ = some x) : ∃ x, (w.setCell ⟨S, i, none⟩ v).cell? ⟨S, j, none⟩ = some x := by
  by_cases e : i = j
  · subst e; exact ⟨_, World.cell?_setCell_same w _ v h⟩
  · obtain ⟨x, hx⟩ := hj
    exact ⟨x, (World.cell?_setCell_other w ⟨S, i, none⟩ ⟨S, j, none⟩ v (fun h => e (congrArg Addr.off h))).trans hx⟩
theorem lt_of_own {w1 : World} {base e sz g n c : Nat} {xs : List Value} (h : w1.ownsRow base e sz (.slice (some ⟨g, 0, none⟩) n c) n xs) : g < w1.heap.size := (h.lt g rfl).2
theorem made_nil {w1 : World} {base e g n : Nat} (h : w1.ownsRow base e 1 (.slice (some ⟨g, 0, none⟩) n n) n (madeCells (Value.slice none 0 0).cells (n * 1)).toList) (i : Nat) (hi : i < n) : w1.cell? ⟨g, i, none⟩ = some (.slice none 0 0) := by
  have := h.cells (g := g) rfl i (.slice none 0 0) (by simp [madeCells, Value.cells, hi, Nat.mod_one])
  rw [show (⟨g, 0, none⟩ : Addr).add i = ⟨g, i, none⟩ from by unfold Addr.add; split <;> simp_all] at this
  exact this
theorem undSS : Tryz.prog.underlying 125 = some (.slice 127) := by kernel_rfl
def kkF (t lo hi st : Int) (xs : Nat → Int) (i : Nat) : Nat := (rowBefore t lo hi st xs (i + 1)).2
def aF (t lo hi st : Int) (xs : Nat → Int) (i j : Nat) : Int := (rowBefore t lo hi st xs (i + 1)).1 + t * j
def reM (R : Nat → Nat → Int) (m i j : Nat) : Int := if m ≤ i then R i j else 0
def reI (R : Nat → Nat → Int) (i0 jj i j : Nat) : Int := if i0 < i ∨ (i = i0 ∧ j < jj) then R i j else 0
theorem RowIn.bd {t lo hi F : Int} {k : Nat} (t1 : 1 ≤ t) (h : RowIn t lo hi (F, k)) (j : Nat) (hj : j < k) : lo ≤ F + t * j ∧ F + t * j ≤ hi := by
  obtain ⟨_, h2⟩ := h
  obtain ⟨q1, q2⟩ := h2 (by show 0 < k; omega)
  simp only at q1 q2
  have p1 : 0 ≤ t * (j : Int) := Int.mul_nonneg (by omega) (Int.natCast_nonneg _)
  have p2 : t * (j : Int) ≤ t * ((k - 1 : Nat) : Int) := Int.mul_le_mul_of_nonneg_left (by omega) (by omega)
  omega
set_option maxRecDepth 100000 in
set_option maxHeartbeats 2000000 in
theorem stopsOf_o (t lo hi st ra : Int) (A : Option Addr) (n c : Nat) (xs : Nat → Int) (w : World) (hn : n ≤ 64) (hA : IA w A n xs) (hx : ∀ i, i < n → 0 ≤ xs i ∧ xs i ≤ 3600)
    (t1 : 1 ≤ t) (t2 : t ≤ 3600) (l1 : -20000 ≤ lo) (l2 : lo ≤ 20000) (h1 : -20000 ≤ hi) (h2 : hi ≤ 20000) (f1 : lo ≤ st) (f2 : st ≤ hi) (r0 : 0 ≤ ra) (r1 : ra ≤ 40000) (kk : Nat → Nat) (a : Nat → Nat → Int) (hkk : kkF t lo hi st xs = kk) (haa : aF t lo hi st xs = a) :
    Calls Tryz.prog 90 #[.agg #[.int .i64 t, .int .i64 lo, .int .i64 hi, .int .i64 st, .int .i64 ra], .slice A n c] w fun e w' => ∃ A2 c2 g2, e = .returned (.slice (some ⟨w.heap.size + 1, 0, none⟩) n n) ∧ RR w' (w.heap.size + 1) n A2 c2 kk g2 a (RE ra n kk a) ∧ Below w.heap.size w w' := by
  obtain ⟨i0, hi0, hz0, hz1, hz2⟩ := info_parts infoStops
  have HKK := Lib.hid hkk
  have HAA := Lib.hid haa
  clear hkk haa
  go_enter Tryz.func90, Tryz.ntmps90
  go_wp2_with (at_make; go_loud (refine wpList_make_full _ rfl _ _ 125 rfl (w.heap.size + 1) 127 i0 _ 1 undSS hi0 hz0 hz1 .i64 .i64 n n n rfl rfl rfl rfl (by rw [hz2]; omega) (by unfold maxLen; omega) (by simp) ?_; intro w1 hown1 hgrow1; have hb1 := below_none hgrow1; have HM := Lib.hid (fun i hi => made_nil hown1 i hi); have HZ := Lib.hid (fun i => frozen_own hown1 i); have e0 := (hb1.cell (p := ⟨w.heap.size, 0, none⟩) (by simp)).trans (show _ = some (.int .i64 t) by simp [go_sem]); have e1 := (hb1.cell (p := ⟨w.heap.size, 1, none⟩) (by simp)).trans (show _ = some (.int .i64 lo) by simp [go_sem]); have e2 := (hb1.cell (p := ⟨w.heap.size, 2, none⟩) (by simp)).trans (show _ = some (.int .i64 hi) by simp [go_sem]); have e3 := (hb1.cell (p := ⟨w.heap.size, 3, none⟩) (by simp)).trans (show _ = some (.int .i64 st) by simp [go_sem]); have e4 := (hb1.cell (p := ⟨w.heap.size, 4, none⟩) (by simp)).trans (show _ = some (.int .i64 ra) by simp [go_sem]); have HB := Lib.hid hb1; have hs1 := hb1.size; simp at hs1; have hs2 : w.heap.size + 1 < w1.heap.size := (by simpa using lt_of_own hown1); clear hb1 hown1 hgrow1))
  have HO : Hid ((w1.alloc (.cells #[.int .i64 st, .int .i64 0] 131)).ownsRow (w.heap.size + 2) 131 2 (.slice (some ⟨w1.heap.size, 0, none⟩) 1 1) 1 (stopL st t 1)) := ⟨by simp [stopL], .inr ⟨w1.heap.size, 1, _, rfl, by omega, heap_alloc_new w1 _, by omega, by unfold maxLen; omega, by simp, by simp [stopL]⟩⟩
  go_loopw [6, 20] (fun s6 s20 wr => ∃ (k : Nat) (vs : Nat → Value), k ≤ n ∧ s20 = .int .i64 k ∧ Below w.heap.size w wr ∧ w.heap.size + 1 < wr.heap.size ∧
     (wr.cell? ⟨w.heap.size, 0, none⟩ = some (.int .i64 t) ∧ wr.cell? ⟨w.heap.size, 1, none⟩ = some (.int .i64 lo) ∧ wr.cell? ⟨w.heap.size, 2, none⟩ = some (.int .i64 hi) ∧ wr.cell? ⟨w.heap.size, 3, none⟩ = some (.int .i64 st) ∧ wr.cell? ⟨w.heap.size, 4, none⟩ = some (.int .i64 ra)) ∧
     Hid (wr.ownsRow (w.heap.size + 2) 131 2 s6 (rowBefore t lo hi st xs k).2 (stopL (rowBefore t lo hi st xs k).1 t (rowBefore t lo hi st xs k).2)) ∧ Hid (∀ i, i ≤ k → RowIn t lo hi (rowBefore t lo hi st xs i)) ∧ Hid (∀ i, i < n → ∃ v, wr.cell? ⟨w.heap.size + 1, i, none⟩ = some v) ∧ Hid (∀ i, wr.frozen? ⟨w.heap.size + 1, i, none⟩ = false) ∧ Hid (Rows wr (w.heap.size + 1) k 131 t (fun i => rowBefore t lo hi st xs (i + 1)) vs)) (fun _ i _ => n - (intOf i).toNat)
  case atStart =>
    refine ⟨0, fun _ => .slice none 0 0, Nat.zero_le _, rfl, ((((Below.refl _ _).alloc (Nat.le_refl _) _).trans (HB.out.mono (by simp)))).alloc (by omega) _, by simp; omega, ⟨by simp [go_sem, e0], by simp [go_sem, e1], by simp [go_sem, e2], by simp [go_sem, e3], by simp [go_sem, e4]⟩, HO.out, (fun i hi0 => by obtain rfl : i = 0 := Nat.le_zero.1 hi0; exact ⟨by show 1 ≤ 50000; omega, fun _ => ⟨f1, by show st + t * ((1 - 1 : Nat) : Int) ≤ hi; simp; exact f2⟩⟩), fun i hi => ⟨_, (World.cell?_alloc_lt w1 _ _ hs2).trans (by simpa using HM.out i hi)⟩, fun i => ?_, fun i hi => absurd hi (Nat.not_lt_zero _), fun i hi => absurd hi (Nat.not_lt_zero _), fun i j _ hj => absurd hj (Nat.not_lt_zero _)⟩
    exact (((Below.refl w1.heap.size w1).alloc (Nat.le_refl _) _).frozen (p := ⟨w.heap.size + 1, i, none⟩) hs2).trans (by simpa using HZ.out i)
  case round =>
    obtain ⟨k, vs, hk, rfl, hbel, hws, ⟨e0, e1, e2, e3, e4⟩, HR, HI, HC, HF, HV⟩ := hrel
    by_cases hlt : k < n
    · obtain ⟨bA, oA, rfl, hA2⟩ := hA (by omega)
      have ha := hA2 k hlt
      have HG : Hid (0 ≤ xs k ∧ xs k ≤ 3600) := Lib.hid (hx k hlt)
      rw [← hbel.cell (p := ⟨bA, oA + k, none⟩) (lt_of ha)] at ha
      have HS := Lib.hid (stopsAfter_row t lo hi st ra (xs k) _ u6 _ wr (HI.out k (Nat.le_refl k)) HR.out t1 t2 l1 l2 h1 h2 HG.out.1 HG.out.2)
      obtain ⟨vk, hvk⟩ := HC.out k hlt
      go_wp2_with (go_at_call 114; go_loud (with_reducible refine Calls.mono HS.out ?_; rintro e w2 ⟨v', rfl, ho2, hk2, hb2⟩; obtain ⟨A', c', rfl⟩ := own_slice ho2; have vk2 := keep hb2 hvk; have fz : w2.frozen? ⟨w.heap.size + 1, k, none⟩ = false := (hb2.frozen (p := ⟨w.heap.size + 1, k, none⟩) hws).trans (HF.out k); have E0 := keep hb2 e0; have E1 := keep hb2 e1; have E2 := keep hb2 e2; have E3 := keep hb2 e3; have E4 := keep hb2 e4; have HR2 := Lib.hid ho2; have HK2 := Lib.hid hk2; have HB2 := Lib.hid hb2; have hs2' := hb2.size; clear ho2 hb2 hk2))
      go_roundw
      case rel =>
        have hS1 : w.heap.size + 1 < wr.heap.size := hws
        refine ⟨k + 1, fun i => if i < k then vs i else .slice A' (nextRow t lo hi (xs k) (rowBefore t lo hi st xs k)).2 c', by omega, by go_num, (hbel.trans (HB2.out.mono (by omega))).setCell (show w.heap.size ≤ w.heap.size + 1 by omega) _, by simp; omega, ⟨by simp [go_sem, E0], by simp [go_sem, E1], by simp [go_sem, E2], by simp [go_sem, E3], by simp [go_sem, E4]⟩, ?_, ?_, ?_, ?_, ?_⟩
        · exact own_set (own_base HR2.out (by omega)) (by omega) _
        · exact fun i hi => (by rcases Nat.lt_or_eq_of_le hi with h | h; exact HI.out i (by omega); rw [h]; exact nextRow_in t1 (HI.out k (Nat.le_refl k)) HK2.out)
        · exact fun i hi => some_set vk2 (by obtain ⟨x, hx'⟩ := HC.out i hi; exact ⟨x, keep HB2.out hx'⟩)
        · exact fun i => by rw [World.frozen?_setCell]; exact (HB2.out.frozen (p := ⟨w.heap.size + 1, i, none⟩) hS1).trans (HF.out i)
        · exact HV.out.next hS1 HB2.out HR2.out ⟨_, vk2⟩ (fun i hi => if_pos hi) (if_neg (Nat.lt_irrefl k))
      case measure => simp [intOf]; omega
    · obtain rfl : k = n := by omega
      obtain ⟨A2, c2, g2, HRR⟩ : ∃ A2 c2 g2, Hid (RR wr (w.heap.size + 1) k A2 c2 kk g2 a (fun _ _ => 0)) := ⟨_, _, _, by rw [← HKK.out, ← HAA.out]; exact RR.of_rows HV.out⟩
      have HKB : Hid (∀ i, i < k → kk i ≤ 50000 ∧ ∀ j, j < kk i → lo ≤ a i j ∧ a i j ≤ hi) := (by
        rw [← HKK.out, ← HAA.out]
        exact fun i hi => ⟨(HI.out (i + 1) hi).1, fun j hj => RowIn.bd t1 (HI.out (i + 1) hi) j hj⟩)
      have HRB : Hid (∀ i j, -1 ≤ RE ra k kk a i j ∧ RE ra k kk a i j ≤ 100000000) := fun i j => RE_bd hn r0 r1 i j
      clear HR HI HC HF HV HKK HAA
      go_wp2_with fail
      go_loopw [9] (fun s9 wo => ∃ z : Int, -2 ≤ z ∧ z ≤ (k : Int) - 2 ∧ s9 = .int .i64 z ∧ Below w.heap.size w wo ∧ w.heap.size + 1 < wo.heap.size ∧
         (wo.cell? ⟨w.heap.size, 0, none⟩ = some (.int .i64 t) ∧ wo.cell? ⟨w.heap.size, 1, none⟩ = some (.int .i64 lo) ∧ wo.cell? ⟨w.heap.size, 2, none⟩ = some (.int .i64 hi) ∧ wo.cell? ⟨w.heap.size, 3, none⟩ = some (.int .i64 st) ∧ wo.cell? ⟨w.heap.size, 4, none⟩ = some (.int .i64 ra)) ∧
         Hid (RR wo (w.heap.size + 1) k A2 c2 kk g2 a (reM (RE ra k kk a) (z + 1).toNat))) (fun i _ => (intOf i + 3).toNat)
      case atStart =>
        refine ⟨(k : Int) - 2, by omega, by omega, rfl, hbel, hws, ⟨e0, e1, e2, e3, e4⟩, HRR.out.congr (fun i j hi hj => ?_)⟩
        unfold reM
        split
        · rw [RE_last ra kk a (by omega)]
        · rfl
      case round =>
        clear hbel hws e0 e1 e2 e3 e4 HRR
        obtain ⟨wo, rfl⟩ : ∃ wo : World, wo = wr := ⟨_, rfl⟩
        obtain ⟨z, z1, z2, rfl, hbel, hws, ⟨e0, e1, e2, e3, e4⟩, HRR⟩ := hrel
        rcases Int.lt_or_le z 0 with hz | hz
        · go_wp2_with fail
          go_ret
          exact ⟨A2, c2, g2, rfl, HRR.out.congr (fun i j hi _ => by unfold reM; rw [if_pos (by omega)]), hbel⟩
        · obtain ⟨i0, rfl⟩ : ∃ i0 : Nat, z = i0 := ⟨z.toNat, by omega⟩
          have q0 : wo.cell? ⟨w.heap.size + 1, i0, none⟩ = some (.slice (A2 i0) (kk i0) (c2 i0)) := HRR.out.1 i0 (by omega)
          go_wp2_with fail
          go_loopw [49] (fun s49 wr => ∃ j : Nat, j ≤ kk i0 ∧ s49 = .int .i64 j ∧ Below w.heap.size w wr ∧ w.heap.size + 1 < wr.heap.size ∧
             (wr.cell? ⟨w.heap.size, 0, none⟩ = some (.int .i64 t) ∧ wr.cell? ⟨w.heap.size, 1, none⟩ = some (.int .i64 lo) ∧ wr.cell? ⟨w.heap.size, 2, none⟩ = some (.int .i64 hi) ∧ wr.cell? ⟨w.heap.size, 3, none⟩ = some (.int .i64 st) ∧ wr.cell? ⟨w.heap.size, 4, none⟩ = some (.int .i64 ra)) ∧
             Hid (RR wr (w.heap.size + 1) k A2 c2 kk g2 a (reI (RE ra k kk a) i0 j))) (fun i _ => kk i0 - (intOf i).toNat)
          case atStart =>
            refine ⟨0, Nat.zero_le _, rfl, hbel, hws, ⟨e0, e1, e2, e3, e4⟩, HRR.out.congr (fun i j hi hj => ?_)⟩
            unfold reM reI
            by_cases h : i0 < i
            · rw [if_pos (by omega), if_pos (by omega)]
            · rw [if_neg (by omega), if_neg (by omega)]
          case round =>
            clear hbel hws e0 e1 e2 e3 e4 HRR q0
            obtain ⟨j, hj, rfl, hbel, hws, ⟨e0, e1, e2, e3, e4⟩, HRR⟩ := hrel
            by_cases hlt : j < kk i0
            · have hi0k : i0 + 1 < k := by omega
              have q0 := HRR.out.1 i0 (by omega)
              have q1 := HRR.out.1 (i0 + 1) hi0k
              obtain ⟨hA, hgS, hB⟩ := HRR.out.2.1 i0 (by omega) (by omega)
              rw [hA] at q0
              obtain ⟨q2, q3, q4⟩ := hB j hlt
              have HA := Lib.hid hA
              clear hB hA
              have hk0 := (HKB.out i0 (by omega)).1
              simp only [Nat.zero_add] at q2 q3 q4
              have HM : Hid (∀ W, Below wr.heap.size wr W → Calls Tryz.prog 91 #[.agg #[.int .i64 t, .int .i64 lo, .int .i64 hi, .int .i64 st, .int .i64 ra], .int .i64 (a i0 j), .slice (A2 (i0 + 1)) (kk (i0 + 1)) (c2 (i0 + 1))] W fun e w' => e = .returned (.int .i64 (RE ra k kk a i0 j)) ∧ Below wr.heap.size wr w') := by
                intro W hW
                rw [RE_step ra kk a hi0k]
                obtain ⟨b1, b2⟩ := HKB.out (i0 + 1) hi0k
                obtain ⟨b3, b4⟩ := (HKB.out i0 (by omega)).2 j hlt
                refine (minimumRest_any t lo hi st ra (a i0 j) (A2 (i0 + 1)) (g2 (i0 + 1)) (kk (i0 + 1)) (c2 (i0 + 1)) (a (i0 + 1)) (RE ra k kk a (i0 + 1)) W (by omega) ?_ (fun i hi => ⟨by obtain ⟨b5, b6⟩ := b2 i hi; omega, HRB.out _ _⟩)).mono (fun _ _ h => ⟨h.1, hW.trans (h.2.mono hW.size)⟩)
                have hrow := (HRR.out.below hW).row hi0k
                have hre : ∀ j', reI (RE ra k kk a) i0 j (i0 + 1) j' = RE ra k kk a (i0 + 1) j' := fun j' => by unfold reI; rw [if_pos (.inl (by omega))]
                simp only [hre] at hrow
                exact hrow
              have hg := lt_of q3
              have hw0 : w.heap.size < wr.heap.size := by omega
              have p1 : (0 : Int) ≤ (i0 : Int) := by omega
              have p2 : (i0 : Int) < (k : Int) := by omega
              have p3 : (i0 : Int) + 1 < (k : Int) := by omega
              have p3' : (0 : Int) ≤ (i0 : Int) + 1 := by omega
              have p4 : IntKind.i64.wrap ((i0 : Int) + 1) = (i0 : Int) + 1 := IntWalk.i64_in _ (by omega)
              have p5 : ((i0 : Int) + 1).toNat = i0 + 1 := by omega
              have p6 : (0 : Int) ≤ (j : Int) := by omega
              have p7 : (j : Int) < (kk i0 : Int) := by omega
              go_wp2_with fail
              go_region_held3 (fun w' => w'.cell? ⟨w.heap.size + 1, i0, none⟩ = some (.slice (some ⟨g2 i0, 0, none⟩) (kk i0) (c2 i0)) ∧ w'.cell? ⟨w.heap.size + 1, i0 + 1, none⟩ = some (.slice (A2 (i0 + 1)) (kk (i0 + 1)) (c2 (i0 + 1))) ∧ w'.cell? ⟨g2 i0, j * 2, none⟩ = some (.int .i64 (a i0 j)) ∧ w'.cell? ⟨w.heap.size, 0, none⟩ = some (.int .i64 t) ∧ w'.cell? ⟨w.heap.size, 1, none⟩ = some (.int .i64 lo) ∧ w'.cell? ⟨w.heap.size, 2, none⟩ = some (.int .i64 hi) ∧ w'.cell? ⟨w.heap.size, 3, none⟩ = some (.int .i64 st) ∧ w'.cell? ⟨w.heap.size, 4, none⟩ = some (.int .i64 ra)) (simp [go_sem, *])
                (first | (go_at_call 91; (with_reducible refine Calls.mono (HM.out _ (by (repeat (first | with_reducible exact Below.refl _ _ | with_reducible assumption | with_reducible refine Below.alloc ?_ (by first | (simp; done) | (simp; omega) | omega) _ | with_reducible refine Below.setCell ?_ (by first | (simp; done) | (simp; omega) | omega) _ | with_reducible refine Below.drew ?_ | with_reducible refine below_drewN ?_ _)))) ?_); rintro e w2 ⟨rfl, hb2⟩; have c3 := keep hb2 q3; have f3 := (hb2.frozen (p := ⟨g2 i0, j * 2 + 1, none⟩) (lt_of q3)).trans q4; obtain ⟨hc2, hf2⟩ := bcell hb2; have HB2 := Lib.hid hb2; clear hb2))
              all_goals
                go_wp2
                go_roundw
                case rel =>
                  refine ⟨j + 1, by omega, by go_num, (hbel.trans (HB2.out.mono (by omega))).setCell (show w.heap.size ≤ g2 i0 by omega) _, (by simp; have := HB2.out.size; omega), ⟨cell_ne (keep HB2.out e0) (by omega), cell_ne (keep HB2.out e1) (by omega), cell_ne (keep HB2.out e2) (by omega), cell_ne (keep HB2.out e3) (by omega), cell_ne (keep HB2.out e4) (by omega)⟩, ?_⟩
                  have hst := (HRR.out.below HB2.out).set (i := i0) (j := j) (v := RE ra k kk a i0 j) (r' := reI (RE ra k kk a) i0 (j + 1)) (by omega) hlt (by unfold reI; rw [if_pos (by omega)]) (fun i' j' hne => by
                    unfold reI
                    by_cases h : i0 < i' ∨ (i' = i0 ∧ j' < j)
                    · rw [if_pos (by omega), if_pos h]
                    · rw [if_neg (by omega), if_neg h])
                  simp only [Nat.zero_add] at hst
                  exact hst
                case measure => simp [intOf]; omega
            · obtain rfl : j = kk i0 := by omega
              go_wp2_with fail
              go_roundw
              case rel =>
                refine ⟨(i0 : Int) - 1, by omega, by omega, by go_num, hbel, hws, ⟨e0, e1, e2, e3, e4⟩, HRR.out.congr (fun i j hi hj => ?_)⟩
                unfold reM reI
                by_cases h : i0 ≤ i
                · rcases Nat.lt_or_eq_of_le h with h1 | rfl
                  · rw [if_pos (by omega), if_pos (by omega)]
                  · rw [if_pos (by omega), if_pos (by omega)]
                · rw [if_neg (by omega), if_neg (by omega)]
              case measure => simp [intOf]; omega
end Go.Proofs.YtjncjoaohonmjaaGreat
namespace Go.Proofs.YtjncjoaohonmjaaGreat
open Go.RowKit Go.Shelf Go.Sort
attribute [local go_sem] idx3_0 idx3_1 idx3_2 old1 fro1 old2 fro2 old3 fro3 old4 fro4 old5 fro5 old6 fro6 old7 fro7 old8 fro8 old9 fro9 old10 fro10 old11 fro11 old12 fro12
theorem mr_att {ra fr : Int} {a r : Nat → Int} {n : Nat} (h : mr ra fr a r n ≠ -1) : ∃ j, j < n ∧ tv ra fr (a j) (r j) = mr ra fr a r n := by
  induction n with
  | zero => exact absurd rfl h
  | succ n ih =>
    by_cases hs : tv ra fr (a n) (r n) ≠ -1 ∧ (mr ra fr a r n = -1 ∨ tv ra fr (a n) (r n) < mr ra fr a r n)
    · exact ⟨n, Nat.lt_succ_self n, by simp only [mr]; rw [mrStep_t hs.1 hs.2]⟩
    · have he : mr ra fr a r (n + 1) = mr ra fr a r n := by simp only [mr]; exact mrStep_f hs
      rw [he] at h ⊢
      obtain ⟨j, hj, e⟩ := ih h
      exact ⟨j, by omega, e⟩
theorem first_of {p : Nat → Bool} {n j : Nat} (hj : j < n) (hp : p j = true) : ∃ i, i < n ∧ p i = true ∧ ∀ i', i' < i → p i' = false := by
  induction j using Nat.strongRecOn with
  | _ j ih =>
    by_cases h : ∃ i', i' < j ∧ p i' = true
    · obtain ⟨i', h1, h2⟩ := h
      exact ih i' h1 (by omega) h2
    · exact ⟨j, hj, hp, fun i' hi' => by cases hq : p i'; rfl; exact absurd ⟨i', hi', hq⟩ h⟩
/-- The index of the next stop from the position fr. -/
def nxt (ra fr : Int) (a r : Nat → Int) (n : Nat) : Nat := (fidx (fun j => tv ra fr (a j) (r j) == mr ra fr a r n) n).toNat
theorem nxt_spec {ra fr : Int} {a r : Nat → Int} {n : Nat} (h : mr ra fr a r n ≠ -1) : nxt ra fr a r n < n ∧ fidx (fun j => tv ra fr (a j) (r j) == mr ra fr a r n) n = (nxt ra fr a r n : Int) ∧ tv ra fr (a (nxt ra fr a r n)) (r (nxt ra fr a r n)) = mr ra fr a r n := by
  obtain ⟨j, hj, e⟩ := mr_att h
  obtain ⟨i, h1, h2, h3⟩ := first_of (p := fun j => tv ra fr (a j) (r j) == mr ra fr a r n) hj (by simp [e])
  have hf := fidx_hit h1 h2 h3
  have hn : nxt ra fr a r n = i := by unfold nxt; rw [hf]; rfl
  rw [hn]
  exact ⟨h1, hf, by simpa using h2⟩
/-- The positions and the travel of the motion with the least travel. -/
def mpos (ra st : Int) (kk : Nat → Nat) (a R : Nat → Nat → Int) : Nat → Int
  | 0 => st
  | i + 1 => a i (nxt ra (mpos ra st kk a R i) (a i) (R i) (kk i))
def mtrv (ra st : Int) (kk : Nat → Nat) (a R : Nat → Nat → Int) : Nat → Int
  | 0 => 0
  | i + 1 => mtrv ra st kk a R i + siz (mpos ra st kk a R (i + 1) - mpos ra st kk a R i)
def mok (ra st : Int) (kk : Nat → Nat) (a R : Nat → Nat → Int) (i : Nat) : Prop := mr ra (mpos ra st kk a R i) (a i) (R i) (kk i) ≠ -1
def posL (p : Nat → Int) (k : Nat) : List Value := (List.range k).map fun i => .int .i64 (p (i + 1))
theorem posL_s (p : Nat → Int) (k : Nat) : posL p (k + 1) = posL p k ++ [.int .i64 (p (k + 1))] := by simp [posL, List.range_succ]
theorem mpos_in {ra st lo hi : Int} {kk : Nat → Nat} {a R : Nat → Nat → Int} {n : Nat} (h1 : lo ≤ st) (h2 : st ≤ hi) (ha : ∀ i, i < n → ∀ j, j < kk i → lo ≤ a i j ∧ a i j ≤ hi) (k : Nat) (hk : k ≤ n) (ho : ∀ i, i < k → mok ra st kk a R i) : lo ≤ mpos ra st kk a R k ∧ mpos ra st kk a R k ≤ hi := by
  cases k with
  | zero => exact ⟨h1, h2⟩
  | succ k => exact ha k (by omega) _ (nxt_spec (ho k (Nat.lt_succ_self k))).1
theorem mtrv_in {ra st lo hi : Int} {kk : Nat → Nat} {a R : Nat → Nat → Int} {n : Nat} (hl : -20000 ≤ lo) (hh : hi ≤ 20000) (h1 : lo ≤ st) (h2 : st ≤ hi) (ha : ∀ i, i < n → ∀ j, j < kk i → lo ≤ a i j ∧ a i j ≤ hi) (k : Nat) (hk : k ≤ n) (ho : ∀ i, i < k → mok ra st kk a R i) : 0 ≤ mtrv ra st kk a R k ∧ mtrv ra st kk a R k ≤ 40000 * k := by
  induction k with
  | zero => simp [mtrv]
  | succ k ih =>
    have i1 := ih (by omega) (fun i hi => ho i (by omega))
    have p1 := mpos_in (R := R) (ra := ra) h1 h2 ha k (by omega) (fun i hi => ho i (by omega))
    have p2 := mpos_in (R := R) (ra := ra) h1 h2 ha (k + 1) hk ho
    have s1 := siz_le (x := mpos ra st kk a R (k + 1) - mpos ra st kk a R k) (b := 40000) (by omega) (by omega)
    have s2 := siz_nn (mpos ra st kk a R (k + 1) - mpos ra st kk a R k)
    show 0 ≤ mtrv ra st kk a R k + siz (mpos ra st kk a R (k + 1) - mpos ra st kk a R k) ∧ mtrv ra st kk a R k + siz (mpos ra st kk a R (k + 1) - mpos ra st kk a R k) ≤ _
    omega
/-- Rows of stops below the block B. -/
def RB (W : World) (S n B : Nat) (A : Nat → Option Addr) (c kk g : Nat → Nat) (a r : Nat → Nat → Int) : Prop :=
  RR W S n A c kk g a r ∧ (0 < n → S < B) ∧ ∀ i, i < n → 0 < kk i → g i < B
theorem RB.of {W W' : World} {S n B : Nat} {A : Nat → Option Addr} {c kk g : Nat → Nat} {a r : Nat → Nat → Int} (h : RB W S n B A c kk g a r) (hc : ∀ b o, S ≤ b → b < B → W'.cell? ⟨b, o, none⟩ = W.cell? ⟨b, o, none⟩) (hf : ∀ b o, S ≤ b → b < B → W'.frozen? ⟨b, o, none⟩ = W.frozen? ⟨b, o, none⟩) : RB W' S n B A c kk g a r := by
  obtain ⟨⟨h1, h2, h3⟩, hS, hg⟩ := h
  refine ⟨⟨fun i hi => (hc _ _ (Nat.le_refl S) (hS (by omega))).trans (h1 i hi), fun i hi h0 => ?_, h3⟩, hS, hg⟩
  obtain ⟨e1, e2, e3⟩ := h2 i hi h0
  have hgB := hg i hi h0
  refine ⟨e1, e2, fun j hj => ?_⟩
  obtain ⟨q1, q2, q3⟩ := e3 j hj
  exact ⟨(hc _ _ (Nat.le_of_lt e2) hgB).trans q1, (hc _ _ (Nat.le_of_lt e2) hgB).trans q2, (hf _ _ (Nat.le_of_lt e2) hgB).trans q3⟩
theorem RB.of_rr {W : World} {S n : Nat} {A : Nat → Option Addr} {c kk g : Nat → Nat} {a r : Nat → Nat → Int} (h : RR W S n A c kk g a r) : RB W S n W.heap.size A c kk g a r :=
  ⟨h, fun h0 => lt_of (h.1 0 h0), fun i hi h0 => lt_of ((h.2.1 i hi h0).2.2 0 h0).1⟩
theorem pick_any (bd ba br : Nat) (t lo hi st ra fr x : Int) (g n c j : Nat) (at_ re : Nat → Int) (w : World) (d0 : w.cell? ⟨bd, 0, none⟩ = some (.int .i64 t)) (d1 : w.cell? ⟨bd, 1, none⟩ = some (.int .i64 lo)) (d2 : w.cell? ⟨bd, 2, none⟩ = some (.int .i64 hi)) (d3 : w.cell? ⟨bd, 3, none⟩ = some (.int .i64 st)) (d4 : w.cell? ⟨bd, 4, none⟩ = some (.int .i64 ra))
    (a0 : w.cell? ⟨ba, 0, none⟩ = some (.int .i64 fr)) (r0 : w.cell? ⟨br, 0, none⟩ = some (.int .i64 x)) (hn : n ≤ 1000000) (hn0 : 0 < n) (hc : ∀ i, i < n → w.cell? ⟨g, 0 + i * 2, none⟩ = some (.int .i64 (at_ i)) ∧ w.cell? ⟨g, 0 + i * 2 + 1, none⟩ = some (.int .i64 (re i)))
    (hr : ∀ i, i < n → (-100000 ≤ at_ i - fr ∧ at_ i - fr ≤ 100000) ∧ (-1 ≤ re i ∧ re i ≤ 100000000)) (hj : fidx (fun i => tv ra fr (at_ i) (re i) == x) n = (j : Int)) :
    Calls Tryz.prog 92 #[.slice (some ⟨g, 0, none⟩) n c, .func (.func 93) #[] #[.pointer (some ⟨bd, 0, none⟩), .pointer (some ⟨ba, 0, none⟩), .pointer (some ⟨br, 0, none⟩)]] w fun e w' => e = .returned (.int .i64 j) ∧ Below w.heap.size w w' := by
  rw [← hj]
  refine indexFunc_stop 93 _ n c g 0 at_ re _ w (enters_of Tryz.func93 (by kernel_rfl) rfl) hn (lt_of (hc 0 hn0).1) hc (fun i w1 hin hb => ?_)
  obtain ⟨⟨q1, q2⟩, ⟨q3, q4⟩⟩ := hr i hin
  exact minimumMotion1_any bd ba br t lo hi st ra fr (at_ i) (re i) x w1 (keep hb d0) (keep hb d1) (keep hb d2) (keep hb d3) (keep hb d4) (keep hb a0) (keep hb r0) q1 q2 q3 q4
theorem infoInt : (Tryz.prog.info? 3).map (fun i => (i.zero, i.size, i.bytes)) = some (some (.int .i64 0), 1, 8) := by kernel_rfl
theorem undInts : Tryz.prog.underlying 36 = some (.slice 3) := by kernel_rfl
theorem news1 (w : World) (x : Value) (t : TypeId) : ∀ j u, [x][j]? = some u → (w.alloc (.cells #[x] t)).cell? ((⟨w.heap.size, 0, none⟩ : Addr).add j) = some u := by
  intro j u hj
  match j, hj with
  | 0, hj => simp at hj; subst hj; simp [Addr.add]
  | j + 1, hj => simp at hj
end Go.Proofs.YtjncjoaohonmjaaGreat
