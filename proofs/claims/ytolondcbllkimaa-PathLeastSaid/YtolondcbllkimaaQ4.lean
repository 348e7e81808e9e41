/- Helpers: many rows of stops in one block of row values. -/
import Derived.Test.YtolondcbllkimaaQ3
namespace Go.Proofs.Ytolondcbllkimaa
open Go.RowKit Go.Shelf Go.Sort
theorem grown_setC (w : World) (a : Addr) (u : Value) : w.grownBy (w.setCell a u) (some a.block) := ⟨rfl, rfl, rfl, by simp, fun k _ hk => heap_setCell_other w a k u (fun e => hk (by rw [e]))⟩
theorem grown_below' {w w' : World} (h : Below w.heap.size w w') : w.grownBy w' none := ⟨h.os, h.tape, h.output, h.size, fun k hk _ => h.block k hk⟩
theorem own_below {w w1 : World} {base e sz n : Nat} {v : Value} {xs : List Value} (h : w.ownsRow base e sz v n xs) (hb : Below w.heap.size w w1) : w1.ownsRow base e sz v n xs := h.kept (grown_below' hb) (by cases hv : v.ownBlock <;> simp)
theorem own_set {w : World} {base e sz n : Nat} {v : Value} {xs : List Value} (h : w.ownsRow base e sz v n xs) {S i : Nat} (hS : S < base) (u : Value) : (w.setCell ⟨S, i, none⟩ u).ownsRow base e sz v n xs :=
  h.kept (grown_setC w ⟨S, i, none⟩ u) (by
    cases hv : v.ownBlock with
    | none => exact .inl rfl
    | some a => exact .inr (fun e => by cases e; have := (h.lt _ hv).1; exact absurd this (Nat.not_le.2 hS)))
theorem own_base {w : World} {base base' e sz n : Nat} {v : Value} {xs : List Value} (h : w.ownsRow base e sz v n xs) (hb : base' ≤ base) : w.ownsRow base' e sz v n xs :=
  ⟨h.1, h.2.imp id (fun ⟨g, cap, cur, e, hbg, r⟩ => ⟨g, cap, cur, e, Nat.le_trans hb hbg, r⟩)⟩
/-- k rows of stops in the block S of row values. -/
def Rows (W : World) (S k : Nat) (e : TypeId) (t : Int) (row : Nat → Int × Nat) (vs : Nat → Value) : Prop :=
  (∀ i, i < k → W.cell? ⟨S, i, none⟩ = some (vs i)) ∧ (∀ i, i < k → W.ownsRow (S + 1) e 2 (vs i) (row i).2 (stopL (row i).1 t (row i).2)) ∧ (∀ i j, i < j → j < k → ∀ a b, (vs i).ownBlock = some a → (vs j).ownBlock = some b → a < b)
theorem Rows.next {W W2 : World} {S k : Nat} {e : TypeId} {t : Int} {row : Nat → Int × Nat} {vs g : Nat → Value} {v : Value} (h : Rows W S k e t row vs) (hS : S < W.heap.size) (hb : Below W.heap.size W W2) (hv : W2.ownsRow (W.heap.size + 1) e 2 v (row k).2 (stopL (row k).1 t (row k).2)) (hc : ∃ u, W2.cell? (⟨S, k, Option.none⟩ : Addr) = some u)
    (g1 : ∀ i, i < k → g i = vs i) (g2 : g k = v) : Rows (W2.setCell (⟨S, k, Option.none⟩ : Addr) v) S (k + 1) e t row g := by
  obtain ⟨h1, h2, h3⟩ := h
  refine ⟨fun i hi => ?_, fun i hi => ?_, fun i j hij hj a b ha hb' => ?_⟩
  · by_cases hk : i < k
    · rw [g1 i hk, World.cell?_setCell_other (h := by intro e; have := congrArg Addr.off e; simp at this; omega)]
      exact (hb.cell (p := (⟨S, i, Option.none⟩ : Addr)) hS).trans (h1 i hk)
    · obtain rfl : i = k := by omega
      rw [g2]
      obtain ⟨u, hu⟩ := hc
      exact World.cell?_setCell_same W2 _ v hu
  · by_cases hk : i < k
    · rw [g1 i hk]
      exact own_set (own_below (h2 i hk) hb) (Nat.lt_succ_self S) v
    · obtain rfl : i = k := by omega
      rw [g2]
      exact own_set (own_base hv (by omega)) (Nat.lt_succ_self S) v
  · by_cases hk : j < k
    · rw [g1 i (by omega)] at ha
      rw [g1 j hk] at hb'
      exact h3 i j hij hk a b ha hb'
    · have hi : i < k := by omega
      obtain rfl : j = k := by omega
      rw [g1 i hi] at ha
      rw [g2] at hb'
      have := ((h2 i hi).lt _ ha).2
      have := (hv.lt _ hb').1
      omega
end Go.Proofs.Ytolondcbllkimaa
