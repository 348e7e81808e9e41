/- Helpers: filters that are composed: their coefficients, new rows and new filters. No condition but the hypotheses that each theorem names. -/
import Derived.Test.YtpkacfgmojblbaaB29
import Derived.Test.YtpkacfgmojblbaaB26
namespace Go.Proofs.Ytpkacfgmojblbaa
open Go.RowKit
attribute [local go_sem] old1 fro1 old2 fro2 old3 fro3 old4 fro4 old5 fro5 old6 fro6 old7 fro7 old8 fro8 old9 fro9 old10 fro10 old11 fro11 old12 fro12
/-- the coefficients after some products of one coefficient -/
def cvJ (f : Nat → Int) (x : Int) (ys : Nat → Int) (k : Nat) : Nat → Nat → Int
  | 0 => f
  | j + 1 => fun i => if i = k + j then cvJ f x ys k j (k + j) + x * ys j else cvJ f x ys k j i
/-- the coefficients after some coefficients of the first filter -/
def cvK (xs ys : Nat → Int) (M : Nat) : Nat → Nat → Int
  | 0 => fun _ => 0
  | k + 1 => cvJ (cvK xs ys M k) (xs k) ys k M
theorem cvJ_bd {f : Nat → Int} {x : Int} {ys : Nat → Int} {k : Nat} {C : Int} (h : ∀ i, -C ≤ f i ∧ f i ≤ C) (x1 : -100 ≤ x) (x2 : x ≤ 100) : ∀ j, (∀ i, i < j → -100 ≤ ys i ∧ ys i ≤ 100) → ∀ i, -(C + 10000 * (j : Int)) ≤ cvJ f x ys k j i ∧ cvJ f x ys k j i ≤ C + 10000 * j
  | 0, _, i => by have := h i; simp only [cvJ]; omega
  | j + 1, hy, i => by
    have ih := cvJ_bd h x1 x2 (k := k) j (fun i hi => hy i (by omega))
    have h1 := ih i
    have h2 := ih (k + j)
    obtain ⟨y1, y2⟩ := hy j (by omega)
    have m := mbd (a := x) (b := ys j) (A := 100) (B := 100) x1 x2 y1 y2
    simp only [cvJ]
    split <;> omega
theorem cvK_bd {xs ys : Nat → Int} {L M : Nat} (hx : ∀ i, i < L → -100 ≤ xs i ∧ xs i ≤ 100) (hy : ∀ i, i < M → -100 ≤ ys i ∧ ys i ≤ 100) (hM : M ≤ 8) : ∀ k, k ≤ L → ∀ i, -(80000 * (k : Int)) ≤ cvK xs ys M k i ∧ cvK xs ys M k i ≤ 80000 * k
  | 0, _, i => by simp [cvK]
  | k + 1, hk, i => by
    have ih := cvK_bd hx hy hM k (by omega)
    obtain ⟨x1, x2⟩ := hx k (by omega)
    have := cvJ_bd (k := k) ih x1 x2 M hy i
    simp only [cvK]
    omega
/-- a new row of numbers -/
def mpRow (B n : Nat) : MP := ⟨fun v w => ∃ G, v = .slice (some ⟨G, 0, none⟩) n n ∧ B ≤ G ∧ IM w G n (fun _ => 0), fun _ _ _ ⟨G, e, h1, h2⟩ hb => ⟨G, e, h1, h2.on hb⟩⟩
/-- a new filter as a value -/
def mpFV (B n : Nat) (dd : Int) : MP := ⟨fun v w => ∃ G, v = .agg #[.slice (some ⟨G, 0, none⟩) n n, .int .i64 dd] ∧ B ≤ G ∧ IM w G n (fun _ => 0), fun _ _ _ ⟨G, e, h1, h2⟩ hb => ⟨G, e, h1, h2.on hb⟩⟩
/-- a new variable for a filter -/
def mpF0 (B : Nat) : MP := ⟨fun v w => ∃ q, v = .pointer (some ⟨q, 0, none⟩) ∧ B ≤ q ∧ (w.cell? ⟨q, 0, none⟩ = some (.slice none 0 0) ∧ w.cell? ⟨q, 1, none⟩ = some (.int .i64 0)) ∧ w.frozen? ⟨q, 0, none⟩ = false ∧ w.frozen? ⟨q, 1, none⟩ = false,
  fun _ _ _ ⟨q, e, hB, ⟨h0, h1⟩, f0, f1⟩ hb => ⟨q, e, hB, ⟨keep hb h0, keep hb h1⟩, (hb.frozen (p := ⟨q, 0, none⟩) (lt_of h0)).trans f0, (hb.frozen (p := ⟨q, 1, none⟩) (lt_of h1)).trans f1⟩⟩
theorem op_make {o : Oper} {a : Act} {w : World} {K : Act → World → Prop} {Q : Exit → Act → World → Prop} {l c : Operand} (hop : o.op = Op.makeSlice 38 l c) {n : Nat} (hl : a.eval l = .int .i64 (n : Int)) (hc : a.eval c = .int .i64 (n : Int)) (hn : n ≤ 1000)
    (hK : ∀ w', IM w' w.heap.size n (fun _ => 0) → Below w.heap.size w w' → K (a.put o.dst (.slice (some ⟨w.heap.size, 0, none⟩) n n)) w') : o.wp Try.prog a w K Q := by
  obtain ⟨i0, hi0, hz0, hz1, hz2⟩ := info_parts infoInt
  obtain ⟨w', hrun, r1, r2⟩ := run_make_full (P := Try.prog) w w.heap.size 38 3 i0 _ 1 undInts hi0 hz0 hz1 .i64 .i64 n (by rw [hz2]; omega) (by unfold maxLen; omega) (Nat.le_refl _)
  unfold Oper.wp
  simp [execOp, hop, hl, hc, hrun, Result.andThen]
  exact hK _ (made_im r1) (below_none r2)
theorem op_stF {op : Oper} {a : Act} {w : World} {K : Act → World → Prop} {Q : Exit → Act → World → Prop} {x y : Operand} (ho : op.op = .store 82 x y) {q G n : Nat} {dd : Int} (hx : a.eval x = .pointer (some ⟨q, 0, none⟩)) (hy : a.eval y = .agg #[.slice (some ⟨G, 0, none⟩) n n, .int .i64 dd]) (c0 : w.cell? ⟨q, 0, none⟩ = some (.slice none 0 0)) (c1 : w.cell? ⟨q, 1, none⟩ = some (.int .i64 0)) (f0 : w.frozen? ⟨q, 0, none⟩ = false) (f1 : w.frozen? ⟨q, 1, none⟩ = false)
    (h : K (a.put op.dst undef) ((w.setCell ⟨q, 0, none⟩ (.slice (some ⟨G, 0, none⟩) n n)).setCell ⟨q, 1, none⟩ (.int .i64 dd))) : op.wp Try.prog a w K Q := by
  unfold Oper.wp execOp
  simp only [ho, hx, hy]
  simp [go_sem, c0, c1, f0, f1]
  exact h
end Go.Proofs.Ytpkacfgmojblbaa
