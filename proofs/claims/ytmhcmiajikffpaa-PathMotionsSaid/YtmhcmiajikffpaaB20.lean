/- Helpers: the document's own point and box of a track. -/
import Derived.Test.YtmhcmiajikffpaaB19
import Derived.Test.YtmhcmiajikffpaaB09
namespace Go.Proofs.Ytmhcmiajikffpaa
open Go.RowKit Go.Shelf Go.Sort
attribute [local go_sem] idx3_0 idx3_1 idx3_2 old1 fro1 old2 fro2 old3 fro3 old4 fro4 old5 fro5 old6 fro6 old7 fro7 old8 fro8 old9 fro9 old10 fro10 old11 fro11 old12 fro12
def plV (p : Plc) : Value := .agg #[.int .i64 p.x, .int .i64 p.y, .int .i64 p.z, .int .i64 p.n]
theorem comb_eq (a b T s t : Int) (h : T = t + s) : a * T + (b - a) * s = a * t + b * s := by
  subst h
  rw [Int.mul_add, Int.sub_mul]
  omega
theorem plc_at {k : Nat → Knot} {n m : Nat} {time : Int} (hm : mIdx k n time = m) (h : (k m).t = time) : plc k n time = ⟨(k m).x, (k m).y, (k m).z, 1⟩ := by
  unfold plc
  rw [hm]
  simp only
  rw [if_pos h]
theorem plc_in {k : Nat → Knot} {n m : Nat} {time : Int} (hm : mIdx k n time = m) (h : time < (k m).t) :
    plc k n time = ⟨(k (m - 1)).x * ((k m).t - (k (m - 1)).t) + ((k m).x - (k (m - 1)).x) * (time - (k (m - 1)).t), (k (m - 1)).y * ((k m).t - (k (m - 1)).t) + ((k m).y - (k (m - 1)).y) * (time - (k (m - 1)).t), (k (m - 1)).z * ((k m).t - (k (m - 1)).t) + ((k m).z - (k (m - 1)).z) * (time - (k (m - 1)).t), (k m).t - (k (m - 1)).t⟩ := by
  unfold plc
  rw [hm]
  simp only
  rw [if_neg (by omega)]
  have e : (k m).t - (k (m - 1)).t = ((k m).t - time) + (time - (k (m - 1)).t) := by omega
  rw [comb_eq _ _ _ _ _ e, comb_eq _ _ _ _ _ e, comb_eq _ _ _ _ _ e]
theorem bminus0_any (x y z : Int) (a1 : -1000000 ≤ x) (a2 : x ≤ 1000000) (a3 : -1000000 ≤ y) (a4 : y ≤ 1000000) (a5 : -1000000 ≤ z) (a6 : z ≤ 1000000) (w : World) :
    Calls Try.prog 97 #[.agg #[.int .i64 x, .int .i64 y, .int .i64 z], .agg #[.int .i64 0, .int .i64 0, .int .i64 0]] w fun e w' => e = .returned (.agg #[.int .i64 x, .int .i64 y, .int .i64 z]) ∧ Below w.heap.size w w' := by
  have := bminus_any x y z 0 0 0 a1 a2 a3 a4 a5 a6 (by decide) (by decide) (by decide) (by decide) (by decide) (by decide) w
  simpa using this
def PT (w : World) (A : Option Addr) (n c : Nat) (d : Int) (wx : World) : Prop :=
  (Below w.heap.size w wx ∧ w.heap.size + 1 < wx.heap.size) ∧ (wx.cell? ⟨w.heap.size, 0, none⟩ = some (.slice A n c) ∧ wx.cell? ⟨w.heap.size, 1, none⟩ = some (.int .i64 d)) ∧
  (wx.cell? ⟨w.heap.size + 1, 0, none⟩ = some (.int .i64 0) ∧ wx.cell? ⟨w.heap.size + 1, 1, none⟩ = some (.int .i64 0) ∧ wx.cell? ⟨w.heap.size + 1, 2, none⟩ = some (.int .i64 0) ∧ wx.cell? ⟨w.heap.size + 1, 3, none⟩ = some (.int .i64 0)) ∧
  (wx.frozen? ⟨w.heap.size + 1, 0, none⟩ = false ∧ wx.frozen? ⟨w.heap.size + 1, 1, none⟩ = false ∧ wx.frozen? ⟨w.heap.size + 1, 2, none⟩ = false ∧ wx.frozen? ⟨w.heap.size + 1, 3, none⟩ = false)
end Go.Proofs.Ytmhcmiajikffpaa
