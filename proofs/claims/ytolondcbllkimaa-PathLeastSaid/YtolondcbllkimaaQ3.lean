/- Helpers: the rows of stops. -/
import Derived.Test.YtolondcbllkimaaQ2
namespace Go.Proofs.Ytolondcbllkimaa
open Go.RowKit Go.Shelf Go.Sort
attribute [local go_sem] idx3_0 idx3_1 idx3_2 old1 fro1 old2 fro2 old3 fro3 old4 fro4 old5 fro5 old6 fro6 old7 fro7 old8 fro8 old9 fro9 old10 fro10 old11 fro11 old12 fro12
theorem stopL_len (F t : Int) (k : Nat) : (stopL F t k).length = k * 2 := by
  induction k with
  | zero => rfl
  | succ k ih => rw [stopL_s, List.length_append, ih]; simp; omega
theorem stopL_get (F t : Int) (k i : Nat) (hi : i < k) : (stopL F t k)[i * 2]? = some (.int .i64 (F + t * i)) ∧ (stopL F t k)[i * 2 + 1]? = some (.int .i64 0) := by
  induction k with
  | zero => omega
  | succ k ih =>
    rw [stopL_s]
    rcases Nat.lt_succ_iff_lt_or_eq.1 hi with h | h
    · obtain ⟨a, b⟩ := ih h
      rw [List.getElem?_append_left (by rw [stopL_len]; omega), List.getElem?_append_left (by rw [stopL_len]; omega)]
      exact ⟨a, b⟩
    · subst h
      rw [List.getElem?_append_right (by rw [stopL_len]; omega), List.getElem?_append_right (by rw [stopL_len]; omega), stopL_len]
      exact ⟨by simp, by simp [show i * 2 + 1 - i * 2 = 1 by omega]⟩
def nextRow (t lo hi tg : Int) (r : Int × Nat) : Int × Nat :=
  if r.2 = 0 then (0, 0) else (firstAt t (max lo (r.1 - t)) tg, cnt t (firstAt t (max lo (r.1 - t)) tg) (min hi (r.1 + t * ((r.2 - 1 : Nat) : Int) + t)))
def rowBefore (t lo hi st : Int) (xs : Nat → Int) : Nat → Int × Nat
  | 0 => (st, 1)
  | i + 1 => nextRow t lo hi (xs i) (rowBefore t lo hi st xs i)
/-- A row's stops lie within the limits. -/
def RowIn (t lo hi : Int) (r : Int × Nat) : Prop := r.2 ≤ 50000 ∧ (0 < r.2 → lo ≤ r.1 ∧ r.1 + t * ((r.2 - 1 : Nat) : Int) ≤ hi)
theorem own_get {w : World} {base g c k : Nat} {F t : Int} {e : TypeId} (h : w.ownsRow base e 2 (.slice (some ⟨g, 0, none⟩) k c) k (stopL F t k)) (i : Nat) (hi : i < k) :
    w.cell? ⟨g, 0 + i * 2, none⟩ = some (.int .i64 (F + t * i)) ∧ w.cell? ⟨g, 0 + i * 2 + 1, none⟩ = some (.int .i64 0) := by
  obtain ⟨a, b⟩ := stopL_get F t k i hi
  have ha := h.cells (g := g) rfl _ _ a
  have hb := h.cells (g := g) rfl _ _ b
  rw [show (⟨g, 0, none⟩ : Addr).add (i * 2) = ⟨g, 0 + i * 2, none⟩ from by unfold Addr.add; split <;> simp_all] at ha
  rw [show (⟨g, 0, none⟩ : Addr).add (i * 2 + 1) = ⟨g, 0 + i * 2 + 1, none⟩ from by unfold Addr.add; split <;> simp_all] at hb
  exact ⟨ha, hb⟩
theorem stopsAfter_row (t lo hi st ra tg : Int) (r : Int × Nat) (v : Value) (base : Nat) (w : World) (hr : RowIn t lo hi r) (ho : w.ownsRow base 146 2 v r.2 (stopL r.1 t r.2))
    (t1 : 1 ≤ t) (t2 : t ≤ 3600) (l1 : -20000 ≤ lo) (l2 : lo ≤ 20000) (h1 : -20000 ≤ hi) (h2 : hi ≤ 20000) (g1 : 0 ≤ tg) (g2 : tg ≤ 3600) :
    Calls Try.prog 125 #[.agg #[.int .i64 t, .int .i64 lo, .int .i64 hi, .int .i64 st, .int .i64 ra], v, .int .i64 tg] w fun e w' => ∃ v', e = .returned v' ∧ w'.ownsRow (w.heap.size + 1) 146 2 v' (nextRow t lo hi tg r).2 (stopL (nextRow t lo hi tg r).1 t (nextRow t lo hi tg r).2) ∧ (nextRow t lo hi tg r).2 ≤ 50000 ∧ Below w.heap.size w w' := by
  obtain ⟨F, k⟩ := r
  simp only [RowIn] at hr ho
  by_cases hk : k = 0
  · subst hk
    have e0 : nextRow t lo hi tg (F, 0) = (0, 0) := rfl
    rw [e0]
    have hv : ∃ A c, v = .slice A 0 c := by
      rcases ho.2 with ⟨rfl, _⟩ | ⟨g, cap, cur, rfl, _⟩
      · exact ⟨_, _, rfl⟩
      · exact ⟨_, _, rfl⟩
    obtain ⟨A, c, rfl⟩ := hv
    exact (stopsAfter_0 t lo hi st ra tg A c w).mono (by rintro e w' ⟨rfl, hb⟩; exact ⟨_, rfl, World.ownsRow_nil _ _ _ _, by simp, hb⟩)
  · have hv : ∃ g c, v = .slice (some ⟨g, 0, none⟩) k c := by
      rcases ho.2 with ⟨rfl, h0⟩ | ⟨g, cap, cur, rfl, _⟩
      · exact absurd h0 hk
      · exact ⟨_, _, rfl⟩
    obtain ⟨g, c, rfl⟩ := hv
    obtain ⟨hk2, hin⟩ := hr
    obtain ⟨i1, i2⟩ := hin (by omega)
    have c0 := (own_get ho 0 (by omega)).1
    have c1 := (own_get ho (k - 1) (by omega)).1
    have p1 : 0 ≤ t * ((k - 1 : Nat) : Int) := Int.mul_nonneg (by omega) (Int.natCast_nonneg _)
    have i3 : F ≤ F + t * ((k - 1 : Nat) : Int) := by omega
    have e0 : nextRow t lo hi tg (F, k) = (firstAt t (max lo (F - t)) tg, cnt t (firstAt t (max lo (F - t)) tg) (min hi (F + t * ((k - 1 : Nat) : Int) + t))) := by simp only [nextRow]; rw [if_neg hk]
    rw [e0]
    simp at c0
    generalize F + t * ((k - 1 : Nat) : Int) = fl at *
    exact stopsAfter_n t lo hi st ra tg F fl g 0 k c w (by omega) (by omega) c0 c1 t1 t2 l1 l2 h1 h2 (by omega) (by omega) (by omega) (by omega) g1 g2
theorem nextRow_in {t lo hi tg : Int} {r : Int × Nat} (t1 : 1 ≤ t) (_ : RowIn t lo hi r) (hk : (nextRow t lo hi tg r).2 ≤ 50000) : RowIn t lo hi (nextRow t lo hi tg r) := by
  refine ⟨hk, fun h0 => ?_⟩
  clear hk
  unfold nextRow at h0 ⊢
  split at h0
  · simp at h0
  · rename_i hr2
    rw [if_neg hr2]
    simp only at h0 ⊢
    obtain ⟨n1, n2⟩ := next_on t (max lo (r.1 - t) - tg) t1
    have hM : max lo (r.1 - t) ≤ firstAt t (max lo (r.1 - t)) tg := by unfold firstAt; omega
    generalize firstAt t (max lo (r.1 - t)) tg = F at *
    generalize hH : min hi (r.1 + t * ((r.2 - 1 : Nat) : Int) + t) = H at *
    have hH2 : H ≤ hi := by omega
    refine ⟨by omega, ?_⟩
    unfold cnt at h0 ⊢
    split at h0
    · simp at h0
    · rename_i hF
      rw [if_neg hF, Nat.add_sub_cancel]
      have q0 : 0 ≤ (H - F) / t := Int.ediv_nonneg (by omega) (by omega)
      rw [Int.toNat_of_nonneg q0]
      have := Int.mul_ediv_self_le (x := H - F) (k := t) (by omega)
      omega
end Go.Proofs.Ytolondcbllkimaa
