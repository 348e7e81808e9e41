/- Helpers: the numbers of the document's examples. -/
import Derived.Test.YtolondcbllkimaaV
import Derived.Test.YtolondcbllkimaaL2
import Derived.Test.YtolondcbllkimaaN2
namespace Go.Proofs.Ytolondcbllkimaa
open Go.RowKit Go.Shelf Go.Sort
def kS : Nat → Knot := fun i => if i = 0 then ⟨0, 0, 0, 0⟩ else ⟨1000, 0, 0, 0⟩
def kP : Nat → Knot := fun i => if i = 0 then ⟨0, 300, 400, 0⟩ else ⟨1000, 600, 800, 0⟩
theorem sq_lt_sq {c x : Int} (hc : 0 ≤ c) (hx : 0 ≤ x) : c * c < x * x ↔ c < x := by
  constructor
  · intro h
    rcases Int.lt_or_le c x with h1 | h1
    · exact h1
    · have := Int.mul_le_mul h1 h1 hx hc
      omega
  · intro h
    have h1 := Int.mul_le_mul (show c + 1 ≤ x by omega) (show c + 1 ≤ x by omega) (by omega) hx
    rw [Int.add_mul, Int.mul_add, Int.mul_add] at h1
    omega
theorem RL_t {p : Int → Bool} {lo hi r m : Int} (h : RL p lo hi r) (h0 : lo ≤ m) (h1 : m ≤ hi + 1) (hp : ∀ e, lo ≤ e → e ≤ hi → (p e = true ↔ m ≤ e)) : r = m := by
  obtain ⟨a, b, c, d⟩ := h
  apply Int.le_antisymm
  · rcases c with c | c
    · omega
    · rcases Int.lt_or_le m r with h2 | h2
      · have := (hp (r - 1) (by omega) (by omega)).2 (by omega)
        rw [c] at this
        simp at this
      · exact h2
  · rcases d with d | d
    · omega
    · rcases Int.lt_or_le r m with h2 | h2
      · have := (hp r (by omega) (by omega)).1 d
        omega
      · exact h2
theorem ex_dist {A B : Trk} {r1 r2 : Int} (hA : A.k = kS ∧ A.n = 2 ∧ A.d = 0) (hB : B.k = kP ∧ B.n = 2 ∧ B.d = 0)
    (h1 : RL (fun e => decide (sqN A B 500 500 < e * vn (A.p 500) (B.p 500) * (e * vn (A.p 500) (B.p 500)))) 0 6006000 r1)
    (h2 : RL (fun e => !decide (e * vn (A.p 500) (B.p 500) * (e * vn (A.p 500) (B.p 500)) < sqF A B 500 500)) 0 6006000 r2) : r1 = 751 ∧ r2 = 750 := by
  have pa : A.p 500 = ⟨0, 0, 0, 1000⟩ := by unfold Trk.p; rw [hA.1, hA.2.1]; kernel_rfl
  have pb : B.p 500 = ⟨450000, 600000, 0, 1000⟩ := by unfold Trk.p; rw [hB.1, hB.2.1]; kernel_rfl
  have e1 : sqN A B 500 500 = 750000000 * 750000000 := by unfold sqN; rw [pa, pb, hA.2.2, hB.2.2]; kernel_rfl
  have e2 : sqF A B 500 500 = 750000000 * 750000000 := by unfold sqF; rw [pa, pb, hA.2.2, hB.2.2]; kernel_rfl
  have ev : vn (A.p 500) (B.p 500) = 1000000 := by rw [pa, pb]; kernel_rfl
  rw [ev, e1] at h1
  rw [ev, e2] at h2
  refine ⟨RL_t h1 (by omega) (by omega) (fun e h h' => ?_), RL_t h2 (by omega) (by omega) (fun e h h' => ?_)⟩
  · rw [decide_eq_true_iff, sq_lt_sq (by omega) (by omega)]
    omega
  · have := sq_lt_sq (c := e * 1000000) (x := 750000000) (by omega) (by omega)
    simp only [Bool.not_eq_true', decide_eq_false_iff_not, this]
    omega
def tS : Trk := ⟨0, 0, 2, 2, kS, 0⟩
def tP : Trk := ⟨0, 0, 2, 2, kP, 0⟩
theorem ex_arr : ((List.range 1001).all fun r => arrB tS tP 0 r == decide (r = 1000)) = true := by kernel_rfl
theorem ex_away : ((List.range 1001).all fun r => (!awayB tS tP 0 r) == decide (r = 1000)) = true := by kernel_rfl
theorem same_arr {A B A' B' : Trk} (hA : A.k = A'.k ∧ A.n = A'.n ∧ A.d = A'.d) (hB : B.k = B'.k ∧ B.n = B'.n ∧ B.d = B'.d) (s r : Int) : arrB A B s r = arrB A' B' s r ∧ awayB A B s r = awayB A' B' s r := by
  unfold arrB awayB sqF sqN Trk.p
  rw [hA.1, hA.2.1, hA.2.2, hB.1, hB.2.1, hB.2.2]
  exact ⟨rfl, rfl⟩
theorem ex_at {f : Int → Bool} (h : ((List.range 1001).all fun r => f r == decide (r = 1000)) = true) (e : Int) (h0 : 0 ≤ e) (h1 : e ≤ 1000) : f e = true ↔ 1000 ≤ e := by
  have := List.all_eq_true.1 h e.toNat (List.mem_range.2 (by omega))
  rw [beq_iff_eq, Int.toNat_of_nonneg h0] at this
  rw [this, decide_eq_true_iff]
  omega
theorem ex_recv {A B : Trk} {arr pos : Int} (hA : A.k = kS ∧ A.n = 2 ∧ A.d = 0) (hB : B.k = kP ∧ B.n = 2 ∧ B.d = 0) (h1 : RL (arrB A B 0) 0 1000 arr) (h2 : RL (fun r => !awayB A B 0 r) 0 arr pos) : arr = 1000 ∧ pos = 1000 := by
  have e1 : arr = 1000 := RL_t h1 (by omega) (by omega) (fun e h h' => by rw [(same_arr (A' := tS) (B' := tP) hA hB 0 e).1]; exact ex_at (f := arrB tS tP 0) ex_arr e h h')
  subst e1
  refine ⟨rfl, RL_t h2 (by omega) (by omega) (fun e h h' => ?_)⟩
  rw [(same_arr (A' := tS) (B' := tP) hA hB 0 e).2]
  exact ex_at (f := fun r => !awayB tS tP 0 r) ex_away e h h'
theorem ex_err (T : Int) (hT : T = 500 ∨ T = 0) {A B : TV} (hA : A.k = kS ∧ A.n = 2 ∧ A.d = 0) (hB : B.k = kP ∧ B.n = 2 ∧ B.d = 0) : distErr A B T = 0 := by
  unfold distErr bothErr timesErr TV.err
  rw [hA.1, hA.2.1, hA.2.2, hB.1, hB.2.1, hB.2.2]
  rcases hT with rfl | rfl <;> kernel_rfl
def x3 : Nat → Int := fun i => if i = 0 then 10 else if i = 1 then 30 else 95
theorem ex_pt : ptErr 100 (-150) 150 90 35 3 x3 = 0 := by kernel_rfl
theorem ex_ok : ∀ i, i < 3 → pOk 100 (-150) 150 90 35 3 x3 i := by
  intro i hi
  unfold pOk mok
  match i, hi with
  | 0, _ => exact (by decide +kernel)
  | 1, _ => exact (by decide +kernel)
  | 2, _ => exact (by decide +kernel)
theorem ex_trv : pTrv 100 (-150) 150 90 35 3 x3 3 = 75 := by kernel_rfl
theorem ex_pos : posL (pPos 100 (-150) 150 90 35 3 x3) 3 = [.int .i64 110, .int .i64 130, .int .i64 95] := by kernel_rfl
end Go.Proofs.Ytolondcbllkimaa
