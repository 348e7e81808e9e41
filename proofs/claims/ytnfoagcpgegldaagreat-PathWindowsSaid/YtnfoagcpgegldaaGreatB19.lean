/- Helpers: the numbers of the document's examples. -/
import Derived.Test.YtnfoagcpgegldaaGreatB13
import Derived.Test.YtnfoagcpgegldaaGreatB17
import Derived.Test.YtnfoagcpgegldaaGreatB18
import Derived.Test.YtnfoagcpgegldaaGreatB06
import Derived.Test.YtnfoagcpgegldaaGreatB05
import Derived.Test.YtnfoagcpgegldaaGreatB09
namespace Go.Proofs.YtnfoagcpgegldaaGreat
open Go.RowKit Go.Shelf Go.Sort
def kS : Nat → Knot := fun i => if i = 0 then ⟨0, 0, 0, 0⟩ else ⟨1000, 0, 0, 0⟩
def kP : Nat → Knot := fun i => if i = 0 then ⟨0, 300, 400, 0⟩ else ⟨1000, 600, 800, 0⟩
theorem sq_lt_sq {c x : Int} (hc : 0 ≤ c) (hx : 0 ≤ x) : c * c < x * x ↔ c < x := by
  constructor
  · intro h
    rcases Int.lt_or_le c x with h1 | h1
    · exact h1
    · have := Int.mul_le_mul h1 h1 hx hc
      omega
  · intro h
    have h1 := Int.mul_le_mul (show c + 1 ≤ x by omega) (show c + 1 ≤ x by omega) (by omega) hx
    rw [Int.add_mul, Int.mul_add, Int.mul_add] at h1
    omega
theorem RL_t {p : Int → Bool} {lo hi r m : Int} (h : RL p lo hi r) (h0 : lo ≤ m) (h1 : m ≤ hi + 1) (hp : ∀ e, lo ≤ e → e ≤ hi → (p e = true ↔ m ≤ e)) : r = m := by
  obtain ⟨a, b, c, d⟩ := h
  apply Int.le_antisymm
  · rcases c with c | c
    · omega
    · rcases Int.lt_or_le m r with h2 | h2
      · have := (hp (r - 1) (by omega) (by omega)).2 (by omega)
        rw [c] at this
        simp at this
      · exact h2
  · rcases d with d | d
    · omega
    · rcases Int.lt_or_le r m with h2 | h2
      · have := (hp r (by omega) (by omega)).1 d
        omega
      · exact h2
theorem ex_dist {A B : Trk} {r1 r2 : Int} (hA : A.k = kS ∧ A.n = 2 ∧ A.d = 0) (hB : B.k = kP ∧ B.n = 2 ∧ B.d = 0)
    (h1 : RL (fun e => decide (sqN A B 500 500 < e * vn (A.p 500) (B.p 500) * (e * vn (A.p 500) (B.p 500)))) 0 6006000 r1)
    (h2 : RL (fun e => !decide (e * vn (A.p 500) (B.p 500) * (e * vn (A.p 500) (B.p 500)) < sqF A B 500 500)) 0 6006000 r2) : r1 = 751 ∧ r2 = 750 := by
  have pa : A.p 500 = ⟨0, 0, 0, 1000⟩ := by unfold Trk.p; rw [hA.1, hA.2.1]; kernel_rfl
  have pb : B.p 500 = ⟨450000, 600000, 0, 1000⟩ := by unfold Trk.p; rw [hB.1, hB.2.1]; kernel_rfl
  have e1 : sqN A B 500 500 = 750000000 * 750000000 := by unfold sqN; rw [pa, pb, hA.2.2, hB.2.2]; kernel_rfl
  have e2 : sqF A B 500 500 = 750000000 * 750000000 := by unfold sqF; rw [pa, pb, hA.2.2, hB.2.2]; kernel_rfl
  have ev : vn (A.p 500) (B.p 500) = 1000000 := by rw [pa, pb]; kernel_rfl
  rw [ev, e1] at h1
  rw [ev, e2] at h2
  refine ⟨RL_t h1 (by omega) (by omega) (fun e h h' => ?_), RL_t h2 (by omega) (by omega) (fun e h h' => ?_)⟩
  · rw [decide_eq_true_iff, sq_lt_sq (by omega) (by omega)]
    omega
  · have := sq_lt_sq (c := e * 1000000) (x := 750000000) (by omega) (by omega)
    simp only [Bool.not_eq_true', decide_eq_false_iff_not, this]
    omega
def tS : Trk := ⟨0, 0, 2, 2, kS, 0⟩
def tP : Trk := ⟨0, 0, 2, 2, kP, 0⟩
theorem ex_arr : ((List.range 1001).all fun r => arrB tS tP 0 r == decide (r = 1000)) = true := by kernel_rfl
theorem ex_away : ((List.range 1001).all fun r => (!awayB tS tP 0 r) == decide (r = 1000)) = true := by kernel_rfl
theorem same_arr {A B A' B' : Trk} (hA : A.k = A'.k ∧ A.n = A'.n ∧ A.d = A'.d) (hB : B.k = B'.k ∧ B.n = B'.n ∧ B.d = B'.d) (s r : Int) : arrB A B s r = arrB A' B' s r ∧ awayB A B s r = awayB A' B' s r := by
  unfold arrB awayB sqF sqN Trk.p
  rw [hA.1, hA.2.1, hA.2.2, hB.1, hB.2.1, hB.2.2]
  exact ⟨rfl, rfl⟩
theorem ex_at {f : Int → Bool} (h : ((List.range 1001).all fun r => f r == decide (r = 1000)) = true) (e : Int) (h0 : 0 ≤ e) (h1 : e ≤ 1000) : f e = true ↔ 1000 ≤ e := by
  have := List.all_eq_true.1 h e.toNat (List.mem_range.2 (by omega))
  rw [beq_iff_eq, Int.toNat_of_nonneg h0] at this
  rw [this, decide_eq_true_iff]
  omega
theorem ex_recv {A B : Trk} {arr pos : Int} (hA : A.k = kS ∧ A.n = 2 ∧ A.d = 0) (hB : B.k = kP ∧ B.n = 2 ∧ B.d = 0) (h1 : RL (arrB A B 0) 0 1000 arr) (h2 : RL (fun r => !awayB A B 0 r) 0 arr pos) : arr = 1000 ∧ pos = 1000 := by
  have e1 : arr = 1000 := RL_t h1 (by omega) (by omega) (fun e h h' => by rw [(same_arr (A' := tS) (B' := tP) hA hB 0 e).1]; exact ex_at (f := arrB tS tP 0) ex_arr e h h')
  subst e1
  refine ⟨rfl, RL_t h2 (by omega) (by omega) (fun e h h' => ?_)⟩
  rw [(same_arr (A' := tS) (B' := tP) hA hB 0 e).2]
  exact ex_at (f := fun r => !awayB tS tP 0 r) ex_away e h h'
theorem ex_err (T : Int) (hT : T = 500 ∨ T = 0) {A B : TV} (hA : A.k = kS ∧ A.n = 2 ∧ A.d = 0) (hB : B.k = kP ∧ B.n = 2 ∧ B.d = 0) : distErr A B T = 0 := by
  unfold distErr bothErr timesErr TV.err
  rw [hA.1, hA.2.1, hA.2.2, hB.1, hB.2.1, hB.2.2]
  rcases hT with rfl | rfl <;> kernel_rfl
def x3 : Nat → Int := fun i => if i = 0 then 10 else if i = 1 then 30 else 95
theorem ex_pt : ptErr 100 (-150) 150 90 35 3 x3 = 0 := by kernel_rfl
theorem ex_ok : ∀ i, i < 3 → pOk 100 (-150) 150 90 35 3 x3 i := by
  intro i hi
  unfold pOk mok
  match i, hi with
  | 0, _ => exact (by decide +kernel)
  | 1, _ => exact (by decide +kernel)
  | 2, _ => exact (by decide +kernel)
theorem ex_trv : pTrv 100 (-150) 150 90 35 3 x3 3 = 75 := by kernel_rfl
theorem ex_pos : posL (pPos 100 (-150) 150 90 35 3 x3) 3 = [.int .i64 110, .int .i64 130, .int .i64 95] := by kernel_rfl
end Go.Proofs.YtnfoagcpgegldaaGreat
namespace Go.Proofs.YtnfoagcpgegldaaGreat
open Go.RowKit Go.Shelf Go.Sort
attribute [local go_sem] idx3_0 idx3_1 idx3_2 old1 fro1 old2 fro2 old3 fro3 old4 fro4 old5 fro5 old6 fro6 old7 fro7 old8 fro8 old9 fro9 old10 fro10 old11 fro11 old12 fro12
set_option maxRecDepth 100000 in
set_option maxHeartbeats 2000000 in
theorem track2 {w : World} {b : Nat} {k : Nat → Knot} (h : ∀ i, i < 2 → w.cell? ⟨b, 0 + i * 4, none⟩ = some (.int .i64 (k i).t) ∧ w.cell? ⟨b, 0 + i * 4 + 1, none⟩ = some (.int .i64 (k i).x) ∧ w.cell? ⟨b, 0 + i * 4 + 2, none⟩ = some (.int .i64 (k i).y) ∧ w.cell? ⟨b, 0 + i * 4 + 3, none⟩ = some (.int .i64 (k i).z)) :
    TV.At ⟨some ⟨b, 0, none⟩, 2, 2, k, 0⟩ w := ⟨fun _ => ⟨b, 0, rfl, lt_of (h 0 (by omega)).1, h⟩, by show 2 ≤ 9223372036854775807; omega⟩
theorem station_any (w : World) : Calls Tryz.prog 45 #[] w fun e w' => ∃ b, e = .returned (.agg #[.slice (some ⟨b, 0, none⟩) 2 2, .int .i64 0]) ∧ TV.At ⟨some ⟨b, 0, none⟩, 2, 2, kS, 0⟩ w' ∧ Below w.heap.size w w' := by
  go_enter Tryz.func45, Tryz.ntmps45
  go_wp2_with fail
  refine bodyPost_ret (v := .agg #[.slice (some ⟨w.heap.size + 1, 0, none⟩) 2 2, .int .i64 0]) (by simp [results, Tryz.results45, go_sem]) rfl ?_
  refine ⟨_, rfl, track2 (fun i hi => ?_), by (repeat (first | with_reducible exact Below.refl _ _ | with_reducible assumption | with_reducible refine Below.alloc ?_ (by first | (simp; done) | (simp; omega) | omega) _ | with_reducible refine Below.setCell ?_ (by first | (simp; done) | (simp; omega) | omega) _ | with_reducible refine Below.drew ?_ | with_reducible refine below_drewN ?_ _))⟩
  match i, hi with
  | 0, _ => refine ⟨?_, ?_, ?_, ?_⟩ <;> simp [go_sem, kS]
  | 1, _ => refine ⟨?_, ?_, ?_, ?_⟩ <;> simp [go_sem, kS]
theorem probe_any (w : World) : Calls Tryz.prog 46 #[] w fun e w' => ∃ b, e = .returned (.agg #[.slice (some ⟨b, 0, none⟩) 2 2, .int .i64 0]) ∧ TV.At ⟨some ⟨b, 0, none⟩, 2, 2, kP, 0⟩ w' ∧ Below w.heap.size w w' := by
  go_enter Tryz.func46, Tryz.ntmps46
  go_wp2_with fail
  refine bodyPost_ret (v := .agg #[.slice (some ⟨w.heap.size + 1, 0, none⟩) 2 2, .int .i64 0]) (by simp [results, Tryz.results46, go_sem]) rfl ?_
  refine ⟨_, rfl, track2 (fun i hi => ?_), by (repeat (first | with_reducible exact Below.refl _ _ | with_reducible assumption | with_reducible refine Below.alloc ?_ (by first | (simp; done) | (simp; omega) | omega) _ | with_reducible refine Below.setCell ?_ (by first | (simp; done) | (simp; omega) | omega) _ | with_reducible refine Below.drew ?_ | with_reducible refine below_drewN ?_ _))⟩
  match i, hi with
  | 0, _ => refine ⟨?_, ?_, ?_, ?_⟩ <;> simp [go_sem, kP]
  | 1, _ => refine ⟨?_, ?_, ?_, ?_⟩ <;> simp [go_sem, kP]
theorem drive_any (w : World) : Calls Tryz.prog 48 #[] w fun e w' => e = .returned (.agg #[.int .i64 100, .int .i64 (-150), .int .i64 150, .int .i64 90, .int .i64 35]) ∧ Below w.heap.size w w' := by
  go_enter Tryz.func48, Tryz.ntmps48
  go_wp2_with fail
  refine bodyPost_ret (v := .agg #[.int .i64 100, .int .i64 (-150), .int .i64 150, .int .i64 90, .int .i64 35]) (by simp [results, Tryz.results48, go_sem]) rfl ?_
  exact ⟨rfl, by (repeat (first | with_reducible exact Below.refl _ _ | with_reducible assumption | with_reducible refine Below.alloc ?_ (by first | (simp; done) | (simp; omega) | omega) _ | with_reducible refine Below.setCell ?_ (by first | (simp; done) | (simp; omega) | omega) _ | with_reducible refine Below.drew ?_ | with_reducible refine below_drewN ?_ _))⟩
theorem ints_any (A B : Option Addr) (n c m c' : Nat) (xs ys : Nat → Int) (w : World) (hn : n ≤ 1000000) (hA : IA w A n xs) (hB : IA w B m ys) :
    Calls Tryz.prog 49 #[.slice A n c, .slice B m c'] w fun e w' => e = .returned (.bool (n == m && (List.range n).all fun i => xs i == ys i)) ∧ Below w.heap.size w w' := by
  by_cases hnm : n = m
  · subst hnm
    have HA := Lib.hid hA
    have HB := Lib.hid hB
    clear hA hB
    go_enter Tryz.func49, Tryz.ntmps49
    go_wp2_with fail
    go_loopw [5] (fun i wr => ∃ k : Nat, k ≤ n ∧ i = .int .i64 k ∧ Hid (∀ j, j < k → xs j = ys j) ∧ Below w.heap.size w wr) (fun i _ => n - (intOf i).toNat)
    case atStart => exact ⟨0, Nat.zero_le _, rfl, fun j hj => absurd hj (Nat.not_lt_zero _), by (repeat (first | with_reducible exact Below.refl _ _ | with_reducible assumption | with_reducible refine Below.alloc ?_ (by first | (simp; done) | (simp; omega) | omega) _ | with_reducible refine Below.setCell ?_ (by first | (simp; done) | (simp; omega) | omega) _ | with_reducible refine Below.drew ?_ | with_reducible refine below_drewN ?_ _))⟩
    case round =>
      obtain ⟨k, hk, rfl, H, hbel⟩ := hrel
      by_cases hlt : k < n
      · obtain ⟨b1, o1, rfl, hc1⟩ := HA.out (by omega)
        obtain ⟨b2, o2, rfl, hc2⟩ := HB.out (by omega)
        have q1 := keep hbel (hc1 k hlt)
        have q2 := keep hbel (hc2 k hlt)
        have hws := hbel.size
        have p1 : (0 : Int) ≤ (k : Int) := by omega
        have p2 : (k : Int) < (n : Int) := by omega
        have HL := Lib.hid hlt
        clear hc1 hc2
        by_cases he : xs k = ys k
        · have g1 : (xs k != ys k) = false := by simp [he]
          have HE := Lib.hid he
          clear he
          go_wp2_with fail
          go_region_held3 (fun w' => w'.cell? ⟨b1, o1 + k, none⟩ = some (.int .i64 (xs k)) ∧ w'.cell? ⟨b2, o2 + k, none⟩ = some (.int .i64 (ys k))) (simp [go_sem, *]) (first | fail)
          all_goals
            go_wp2
            go_roundw
            case rel => exact ⟨k + 1, by omega, by go_num, fun j hj => (by
              rcases Nat.lt_or_eq_of_le (Nat.le_of_lt_succ hj) with h | h
              · exact H.out j h
              · rw [h]; exact HE.out), by (repeat (first | with_reducible exact Below.refl _ _ | with_reducible assumption | with_reducible refine Below.alloc ?_ (by first | (simp; done) | (simp; omega) | omega) _ | with_reducible refine Below.setCell ?_ (by first | (simp; done) | (simp; omega) | omega) _ | with_reducible refine Below.drew ?_ | with_reducible refine below_drewN ?_ _))⟩
            case measure => simp [intOf]; omega
        · have g1 : (xs k != ys k) = true := by simp [he]
          have HE := Lib.hid he
          clear he
          go_wp2_with fail
          go_region_held3 (fun w' => w'.cell? ⟨b1, o1 + k, none⟩ = some (.int .i64 (xs k)) ∧ w'.cell? ⟨b2, o2 + k, none⟩ = some (.int .i64 (ys k))) (simp [go_sem, *]) (first | fail)
          all_goals
            go_wp2
            go_ret
            refine ⟨ret_bool ?_, by (repeat (first | with_reducible exact Below.refl _ _ | with_reducible assumption | with_reducible refine Below.alloc ?_ (by first | (simp; done) | (simp; omega) | omega) _ | with_reducible refine Below.setCell ?_ (by first | (simp; done) | (simp; omega) | omega) _ | with_reducible refine Below.drew ?_ | with_reducible refine below_drewN ?_ _))⟩
            simp only [beq_self_eq_true, Bool.true_and]
            refine (List.all_eq_false.2 ⟨k, List.mem_range.2 HL.out, ?_⟩).symm
            simpa using HE.out
      · obtain rfl : k = n := by omega
        go_wp2
        go_ret
        refine ⟨ret_bool ?_, hbel⟩
        simp only [beq_self_eq_true, Bool.true_and]
        exact (List.all_eq_true.2 fun j hj => by simpa using H.out j (List.mem_range.1 hj)).symm
  · have g0 : (((n : Int) != (m : Int)) = true) := by simp; omega
    rw [show (n == m) = false by simpa using hnm]
    go_enter Tryz.func49, Tryz.ntmps49
    go_wp2_with fail
    go_ret
    exact ⟨rfl, by (repeat (first | with_reducible exact Below.refl _ _ | with_reducible assumption | with_reducible refine Below.alloc ?_ (by first | (simp; done) | (simp; omega) | omega) _ | with_reducible refine Below.setCell ?_ (by first | (simp; done) | (simp; omega) | omega) _ | with_reducible refine Below.drew ?_ | with_reducible refine below_drewN ?_ _))⟩
theorem ex1 (w : World) (b1 b2 : Nat) (h1 : TV.At ⟨some ⟨b1, 0, none⟩, 2, 2, kS, 0⟩ w) (h2 : TV.At ⟨some ⟨b2, 0, none⟩, 2, 2, kP, 0⟩ w) :
    Calls Tryz.prog 13 #[.agg #[.slice (some ⟨b1, 0, none⟩) 2 2, .int .i64 0], .agg #[.slice (some ⟨b2, 0, none⟩) 2 2, .int .i64 0], .int .i64 500] w fun e w' => e = .returned (.tuple #[.agg #[.int .i64 750, .int .i64 750], .int .i64 0]) ∧ Below w.heap.size w w' :=
  (distanceAt_x _ _ 2 2 2 2 kS kP 0 0 500 w h1 h2).mono (by
    rintro e w' ⟨hb, hh⟩
    rw [if_pos (ex_err 500 (.inl rfl) ⟨rfl, rfl, rfl⟩ ⟨rfl, rfl, rfl⟩)] at hh
    obtain ⟨A', B', r1, r2, hA, hB, rfl, h1, h2⟩ := hh
    obtain ⟨rfl, rfl⟩ := ex_dist hA hB h1 h2
    exact ⟨rfl, hb⟩)
theorem ex2 (w : World) (b1 b2 : Nat) (h1 : TV.At ⟨some ⟨b1, 0, none⟩, 2, 2, kS, 0⟩ w) (h2 : TV.At ⟨some ⟨b2, 0, none⟩, 2, 2, kP, 0⟩ w) :
    Calls Tryz.prog 20 #[.agg #[.slice (some ⟨b1, 0, none⟩) 2 2, .int .i64 0], .agg #[.slice (some ⟨b2, 0, none⟩) 2 2, .int .i64 0], .int .i64 0] w fun e w' => e = .returned (.tuple #[.agg #[.int .i64 999, .int .i64 1000], .int .i64 0]) ∧ Below w.heap.size w w' :=
  (receivedAt_x _ _ 2 2 2 2 kS kP 0 0 0 w h1 h2).mono (by
    rintro e w' ⟨hb, hh⟩
    rw [if_pos (ex_err 0 (.inr rfl) ⟨rfl, rfl, rfl⟩ ⟨rfl, rfl, rfl⟩)] at hh
    obtain ⟨A', B', arr, hA, hB, h1, hh⟩ := hh
    have e1 : (kP (2 - 1)).t = 1000 := rfl
    simp only [e1] at h1 hh
    have hR : arr = 1000 := RL_t h1 (by omega) (by omega) (fun e h h' => by rw [(same_arr (A' := tS) (B' := tP) hA hB 0 e).1]; exact ex_at (f := arrB tS tP 0) ex_arr e h h')
    rcases hh with ⟨h3, _⟩ | ⟨_, pos, h2, rfl⟩
    · omega
    · obtain ⟨rfl, rfl⟩ := ex_recv hA hB h1 h2
      exact ⟨rfl, hb⟩)
def y3 : Nat → Int := fun i => if i = 0 then 110 else if i = 1 then 130 else 95
theorem ia3 {w : World} {b : Nat} {a0 a1 a2 : Int} {xs : Nat → Int} (h0 : w.cell? ⟨b, 0 + 0, none⟩ = some (.int .i64 a0)) (h1 : w.cell? ⟨b, 0 + 1, none⟩ = some (.int .i64 a1)) (h2 : w.cell? ⟨b, 0 + 2, none⟩ = some (.int .i64 a2)) (e0 : xs 0 = a0) (e1 : xs 1 = a1) (e2 : xs 2 = a2) : IA w (some ⟨b, 0, none⟩) 3 xs := fun _ => ⟨b, 0, rfl, fun i hi => by
  match i, hi with
  | 0, _ => rw [e0]; exact h0
  | 1, _ => rw [e1]; exact h1
  | 2, _ => rw [e2]; exact h2⟩
theorem ex3 (w : World) (A : Option Addr) (hA : IA w A 3 x3) :
    Calls Tryz.prog 47 #[.agg #[.int .i64 100, .int .i64 (-150), .int .i64 150, .int .i64 90, .int .i64 35], .slice A 3 3] w fun e w' => ∃ A2 c2, e = .returned (.tuple #[.slice A2 3 c2, .int .i64 75, .int .i64 0]) ∧ IA w' A2 3 y3 ∧ Below w.heap.size w w' :=
  (pointing_any 100 (-150) 150 90 35 A 3 3 x3 w (by omega) hA).mono (by
    rintro e w' ⟨hb, _, h⟩
    rcases h ex_pt with ⟨_, _, v, rfl, hv⟩ | ⟨⟨i, hi, hn⟩, _⟩
    · rw [ex_pos] at hv
      rw [ex_trv]
      obtain ⟨hv1, hv2⟩ := own_parts hv
      have hv3 := (hv2 (by omega)).1
      rw [hv3] at hv1
      rw [hv1] at hv ⊢
      have hc := fun i u h => hv.cells (g := sG v) rfl i u h
      refine ⟨_, _, rfl, ia3 (a0 := 110) (a1 := 130) (a2 := 95) ?_ ?_ ?_ rfl rfl rfl, hb⟩
      · simpa [Addr.add] using hc 0 _ rfl
      · simpa [Addr.add] using hc 1 _ rfl
      · simpa [Addr.add] using hc 2 _ rfl
    · exact absurd (ex_ok i hi) hn)
theorem thenB {w X Y : World} (h : Below w.heap.size w X) (h2 : Below X.heap.size X Y) : Below w.heap.size w Y := h.trans (h2.mono h.size)
theorem keepA {w : World} {a : Addr} {v : Value} (o : Obj) (h : w.cell? a = some v) : (w.alloc o).cell? a = some v := (World.cell?_alloc_some w a o (by rw [h]; rfl)).trans h
theorem two_new {w : World} {a b : Value} {T : TypeId} : (w.alloc (.cells #[a, b] T)).cell? ⟨w.heap.size, 0, none⟩ = some a ∧ (w.alloc (.cells #[a, b] T)).cell? ⟨w.heap.size, 1, none⟩ = some b := ⟨by simp [go_sem], by simp [go_sem]⟩
set_option maxRecDepth 100000 in
set_option maxHeartbeats 2000000 in
theorem awake_any (w : World) : Calls Tryz.prog 11 #[] w fun e w' => e = .returned (.bool true) ∧ Below w.heap.size w w' := by
  go_enter Tryz.func11, Tryz.ntmps11
  go_wp2_with (first
    | (go_at_call 45; (with_reducible refine Calls.mono (station_any _) ?_); rintro e w1 ⟨b1, rfl, t1, hb1⟩; have B := thenB (show Below w.heap.size w _ by (repeat (first | with_reducible exact Below.refl _ _ | with_reducible assumption | with_reducible refine Below.alloc ?_ (by first | (simp; done) | (simp; omega) | omega) _ | with_reducible refine Below.setCell ?_ (by first | (simp; done) | (simp; omega) | omega) _ | with_reducible refine Below.drew ?_ | with_reducible refine below_drewN ?_ _))) hb1; have Bz := B.size)
    | (go_at_call 46; (with_reducible refine Calls.mono (probe_any _) ?_); rintro e w2 ⟨b2, rfl, t2, hb2⟩; have t3 := t1.below hb2; have B := thenB (show Below w.heap.size w _ by (repeat (first | with_reducible exact Below.refl _ _ | with_reducible assumption | with_reducible refine Below.alloc ?_ (by first | (simp; done) | (simp; omega) | omega) _ | with_reducible refine Below.setCell ?_ (by first | (simp; done) | (simp; omega) | omega) _ | with_reducible refine Below.drew ?_ | with_reducible refine below_drewN ?_ _))) hb2; have Bz := B.size)
    | (go_at_call 13; (with_reducible refine Calls.mono (ex1 _ _ _ t3 t2) ?_); rintro e w3 ⟨rfl, hb3⟩; have B := thenB (show Below w.heap.size w _ by (repeat (first | with_reducible exact Below.refl _ _ | with_reducible assumption | with_reducible refine Below.alloc ?_ (by first | (simp; done) | (simp; omega) | omega) _ | with_reducible refine Below.setCell ?_ (by first | (simp; done) | (simp; omega) | omega) _ | with_reducible refine Below.drew ?_ | with_reducible refine below_drewN ?_ _))) hb3; have Bz := B.size)
    | (go_at_call 20; (with_reducible refine Calls.mono (ex2 _ _ _ t3 t2) ?_); rintro e w4 ⟨rfl, hb4⟩; have B := thenB (show Below w.heap.size w _ by (repeat (first | with_reducible exact Below.refl _ _ | with_reducible assumption | with_reducible refine Below.alloc ?_ (by first | (simp; done) | (simp; omega) | omega) _ | with_reducible refine Below.setCell ?_ (by first | (simp; done) | (simp; omega) | omega) _ | with_reducible refine Below.drew ?_ | with_reducible refine below_drewN ?_ _))) hb4; have Bz := B.size)
    | (go_at_call 48; (with_reducible refine Calls.mono (drive_any _) ?_); rintro e w5 ⟨rfl, hb5⟩; have B := thenB (show Below w.heap.size w _ by (repeat (first | with_reducible exact Below.refl _ _ | with_reducible assumption | with_reducible refine Below.alloc ?_ (by first | (simp; done) | (simp; omega) | omega) _ | with_reducible refine Below.setCell ?_ (by first | (simp; done) | (simp; omega) | omega) _ | with_reducible refine Below.drew ?_ | with_reducible refine below_drewN ?_ _))) hb5; have Bz := B.size)
    | (go_at_call 47; go_loud (with_reducible refine Calls.mono (ex3 _ _ (ia3 (a0 := 10) (a1 := 30) (a2 := 95) (by simp [go_sem]) (by simp [go_sem]) (by simp [go_sem]) rfl rfl rfl)) ?_; rintro e w6 ⟨A6, c6, rfl, t6, hb6⟩; have B := thenB (show Below w.heap.size w _ by (repeat (first | with_reducible exact Below.refl _ _ | with_reducible assumption | with_reducible refine Below.alloc ?_ (by first | (simp; done) | (simp; omega) | omega) _ | with_reducible refine Below.setCell ?_ (by first | (simp; done) | (simp; omega) | omega) _ | with_reducible refine Below.drew ?_ | with_reducible refine below_drewN ?_ _))) hb6; have Bz := B.size; have d0 := keep hb6 (keepA _ (keep hb5 (keepA _ (keep hb4 (keep hb2 (keep hb1 (two_new (w := w3)).1)))))); have d1 := keep hb6 (keepA _ (keep hb5 (keepA _ (keep hb4 (keep hb2 (keep hb1 (two_new (w := w3)).2)))))); have r0 := keep hb6 (keepA _ (keep hb5 (two_new (w := w4)).1)); have r1 := keep hb6 (keepA _ (keep hb5 (two_new (w := w4)).2))))
    | (go_at_call 49; go_loud (with_reducible refine Calls.mono (ints_any A6 _ 3 c6 3 3 y3 y3 _ (by omega) (t6.below (by (repeat (first | with_reducible exact Below.refl _ _ | with_reducible assumption | with_reducible refine Below.alloc ?_ (by first | (simp; done) | (simp; omega) | omega) _ | with_reducible refine Below.setCell ?_ (by first | (simp; done) | (simp; omega) | omega) _ | with_reducible refine Below.drew ?_ | with_reducible refine below_drewN ?_ _)))) (ia3 (a0 := 110) (a1 := 130) (a2 := 95) (by simp [go_sem]) (by simp [go_sem]) (by simp [go_sem]) rfl rfl rfl)) ?_; rintro e w7 ⟨rfl, hb7⟩; have B := thenB (show Below w.heap.size w _ by (repeat (first | with_reducible exact Below.refl _ _ | with_reducible assumption | with_reducible refine Below.alloc ?_ (by first | (simp; done) | (simp; omega) | omega) _ | with_reducible refine Below.setCell ?_ (by first | (simp; done) | (simp; omega) | omega) _ | with_reducible refine Below.drew ?_ | with_reducible refine below_drewN ?_ _))) hb7; have Bz := B.size)))
  go_ret
  exact ⟨rfl, B⟩
end Go.Proofs.YtnfoagcpgegldaaGreat
namespace Go.Proofs.YtnfoagcpgegldaaGreat
open Go.RowKit Go.Shelf Go.Sort
attribute [local go_sem] idx3_0 idx3_1 idx3_2 old1 fro1 old2 fro2 old3 fro3 old4 fro4 old5 fro5 old6 fro6 old7 fro7 old8 fro8 old9 fro9 old10 fro10 old11 fro11 old12 fro12
def Entr (g : Nat) : Prop := ∀ args w, (callFunc g args).run Tryz.prog w = .ok (.enter g args) w
/-- the value is a closure that answers the error er in each later world, if what it relies on holds -/
def Chk (pre : Prop) (er : Int) (v : Value) (w : World) : Prop := ∃ g cb, v = .func (.func g) #[] cb ∧ Entr g ∧ ∀ w1, Below w.heap.size w w1 → pre → Calls Tryz.prog g cb w1 fun e w' => e = .returned (.int .i64 er) ∧ Below w1.heap.size w1 w'
/-- .. that answers the Bool b -/
def Cnd (pre : Prop) (b : Bool) (v : Value) (w : World) : Prop := ∃ g cb, v = .func (.func g) #[] cb ∧ Entr g ∧ ∀ w1, Below w.heap.size w w1 → pre → Calls Tryz.prog g cb w1 fun e w' => e = .returned (.bool b) ∧ Below w1.heap.size w1 w'
theorem Chk.on {pre : Prop} {er : Int} {v : Value} {w w2 : World} (h : Chk pre er v w) (hb : Below w.heap.size w w2) : Chk pre er v w2 := by
  obtain ⟨g, cb, hv, he, hc⟩ := h
  exact ⟨g, cb, hv, he, fun w1 h1 hp => hc w1 (belowT hb h1) hp⟩
theorem Cnd.on {pre : Prop} {b : Bool} {v : Value} {w w2 : World} (h : Cnd pre b v w) (hb : Below w.heap.size w w2) : Cnd pre b v w2 := by
  obtain ⟨g, cb, hv, he, hc⟩ := h
  exact ⟨g, cb, hv, he, fun w1 h1 hp => hc w1 (belowT hb h1) hp⟩
theorem Chk.imp {pre pre' : Prop} {er : Int} {v : Value} {w : World} (h : Chk pre er v w) (hp : pre' → pre) : Chk pre' er v w := by
  obtain ⟨g, cb, hv, he, hc⟩ := h
  exact ⟨g, cb, hv, he, fun w1 h1 h2 => hc w1 h1 (hp h2)⟩
def Chks (n : Nat) (er : Nat → Int) (v : Value) (w : World) : Prop := ∃ L, v = .slice (some ⟨L, 0, none⟩) n n ∧ ∃ F : Nat → Value, (∀ i, i < n → w.cell? ⟨L, 0 + i, none⟩ = some (F i)) ∧ ∀ i, i < n → Chk (∀ j, j < i → er j = 0) (er i) (F i) w
theorem Chks.on {n : Nat} {er : Nat → Int} {v : Value} {w w2 : World} (h : Chks n er v w) (hb : Below w.heap.size w w2) : Chks n er v w2 := by
  obtain ⟨L, hv, F, hF, hC⟩ := h
  exact ⟨L, hv, F, fun i hi => keep hb (hF i hi), fun i hi => (hC i hi).on hb⟩
theorem first_chks {n : Nat} {er : Nat → Int} {v : Value} {w : World} (hn : n ≤ 100) (h0 : 0 < n) (h : Chks n er v w) :
    Calls Tryz.prog 51 #[v] w fun e w' => e = .returned (.int .i64 (ferr er 0 n)) ∧ Below w.heap.size w w' := by
  obtain ⟨L, rfl, F, hF, hC⟩ := h
  have h1 : ∀ i, ∃ q : Nat × Array Value, i < n → F i = .func (.func q.1) #[] q.2 ∧ Entr q.1 ∧ ∀ w1, Below w.heap.size w w1 → (∀ j, j < i → er j = 0) → Calls Tryz.prog q.1 q.2 w1 fun e w' => e = .returned (.int .i64 (er i)) ∧ Below w1.heap.size w1 w' := by
    intro i
    by_cases hi : i < n
    · obtain ⟨g, cb, hv⟩ := hC i hi
      exact ⟨(g, cb), fun _ => hv⟩
    · exact ⟨(0, #[]), fun h => absurd h hi⟩
  obtain ⟨q, hq⟩ := Classical.skolem.1 h1
  exact firstError_any L n (fun i => (q i).1) (fun i => (q i).2) er w hn (lt_of (hF 0 h0)) (fun i hi => by rw [hF i hi, (hq i hi).1]) (fun i hi => (hq i hi).2.1) (fun i w1 hi hz hb => (hq i hi).2.2 w1 hb hz)
def Two (A B : TV) (v : Value) (w : World) : Prop := ∃ b, v = .slice (some ⟨b, 0, none⟩) 2 2 ∧ w.cell? ⟨b, 0, none⟩ = some (.slice A.a A.n A.c) ∧ w.cell? ⟨b, 1, none⟩ = some (.int .i64 A.d) ∧ w.cell? ⟨b, 2, none⟩ = some (.slice B.a B.n B.c) ∧ w.cell? ⟨b, 3, none⟩ = some (.int .i64 B.d)
theorem Two.on {A B : TV} {v : Value} {w w2 : World} (h : Two A B v w) (hb : Below w.heap.size w w2) : Two A B v w2 := by
  obtain ⟨b, hv, h0, h1, h2, h3⟩ := h
  exact ⟨b, hv, keep hb h0, keep hb h1, keep hb h2, keep hb h3⟩
def mpChk (pre : Prop) (er : Int) : MP := ⟨Chk pre er, fun _ _ _ h hb => h.on hb⟩
def mpCnd (pre : Prop) (b : Bool) : MP := ⟨Cnd pre b, fun _ _ _ h hb => h.on hb⟩
def mpChks (n : Nat) (er : Nat → Int) : MP := ⟨Chks n er, fun _ _ _ h hb => h.on hb⟩
def mpTwo (A B : TV) : MP := ⟨Two A B, fun _ _ _ h hb => h.on hb⟩
def TV.v (A : TV) : Value := .agg #[.slice A.a A.n A.c, .int .i64 A.d]
theorem trackCheck_chk (A : TV) (w : World) (hA : A.At w) :
    Calls Tryz.prog 52 #[.agg #[.slice A.a A.n A.c, .int .i64 A.d]] w fun e w' => ∃ v, e = .returned v ∧ Below w.heap.size w w' ∧ Chk True A.err v w' := by
  refine (trackCheck_any A.a A.n A.c A.d w).mono ?_
  rintro e w' ⟨rfl, rfl⟩
  have hb : Below w.heap.size w (w.alloc (.cells #[.slice A.a A.n A.c, .int .i64 A.d] 24)) := (Below.refl _ _).alloc (Nat.le_refl _) _
  exact ⟨_, rfl, hb, _, _, rfl, (enters_of Tryz.func90 (by kernel_rfl) rfl), fun w1 h1 _ => trackCheck1_any A.a A.n A.c w.heap.size A.d w1 A.k hA.2 (hA.below (belowT hb h1)).1 (keep h1 (by simp [go_sem])) (keep h1 (by simp [go_sem]))⟩
theorem tc_item (A B : TV) (time : Int) (q1 q2 s t TB : Nat) (W w1 : World) (hb : Below W.heap.size W w1) (hA : A.At W) (hB : B.At W) (hA0 : A.err = 0) (hB0 : B.err = 0)
    (c0 : W.cell? ⟨q1, 0, none⟩ = some (.func (.func 92) #[] #[.pointer (some ⟨s, 0, none⟩), .pointer (some ⟨t, 0, none⟩)])) (c1 : W.cell? ⟨q2, 0, none⟩ = some (.int .i64 2))
    (s0 : W.cell? ⟨s, 0, none⟩ = some (.slice (some ⟨TB, 0, none⟩) 2 2)) (t0 : W.cell? ⟨t, 0, none⟩ = some (.int .i64 time))
    (e0 : W.cell? ⟨TB, 0, none⟩ = some (.slice A.a A.n A.c)) (e1 : W.cell? ⟨TB, 1, none⟩ = some (.int .i64 A.d)) (e2 : W.cell? ⟨TB, 2, none⟩ = some (.slice B.a B.n B.c)) (e3 : W.cell? ⟨TB, 3, none⟩ = some (.int .i64 B.d)) :
    Calls Tryz.prog 102 #[.pointer (some ⟨q1, 0, none⟩), .pointer (some ⟨q2, 0, none⟩)] w1 fun e w' => e = .returned (.int .i64 (timesErr A B time)) ∧ Below w1.heap.size w1 w' := by
  obtain ⟨ba, oa, ea, ha⟩ := TV.valid (hA.below hb) hA0
  obtain ⟨bb, ob, eb, hbb⟩ := TV.valid (hB.below hb) hB0
  rw [ea] at e0
  rw [eb] at e2
  have hc := timeCheck1_any 2 TB s t (fun i => if i = 0 then ⟨ba, oa, A.n, A.c, A.k, A.d⟩ else ⟨bb, ob, B.n, B.c, B.k, B.d⟩) time w1 (by omega) (keep hb s0) (keep hb t0) (lt_of (keep hb e0)) (lt_of (keep hb t0))
    (fun i hi => by
      rcases (by omega : i = 0 ∨ i = 1) with rfl | rfl
      · exact ⟨keep hb e0, keep hb e1⟩
      · exact ⟨keep hb e2, keep hb e3⟩)
    (fun i hi => by
      rcases (by omega : i = 0 ∨ i = 1) with rfl | rfl
      · exact ha
      · exact hbb)
  have hreq := require1_any q1 q2 92 #[.pointer (some ⟨s, 0, none⟩), .pointer (some ⟨t, 0, none⟩)] 2 _ w1 (keep hb c0) (keep hb c1) (lt_of (keep hb c1)) (enters_of Tryz.func92 (by kernel_rfl) rfl) hc
  refine hreq.mono ?_
  rintro e w' ⟨rfl, hw⟩
  refine ⟨ret_int ?_, hw⟩
  simp only [timesErr]
  simp [List.range, List.range.loop]
  cases outside time A.k A.n <;> cases outside time B.k B.n <;> simp
theorem timeCheck_chk (A B : TV) (time : Int) (v : Value) (w : World) (hA : A.At w) (hB : B.At w) (h : Two A B v w) :
    Calls Tryz.prog 53 #[.int .i64 time, v] w fun e w' => ∃ v', e = .returned v' ∧ Below w.heap.size w w' ∧ Chk (A.err = 0 ∧ B.err = 0) (timesErr A B time) v' w' := by
  obtain ⟨b, rfl, e0, e1, e2, e3⟩ := h
  refine (timeCheck_any time _ _ _ _ rfl w).mono ?_
  rintro e w' ⟨rfl, rfl⟩
  have hb : Below w.heap.size w ((((w.alloc (.cells #[.int .i64 time] 3)).alloc (.cells #[.slice (some ⟨b, 0, none⟩) 2 2] 138)).alloc (.cells #[.int .i64 2] 30)).alloc (.cells #[.func (.func 92) #[] #[.pointer (some ⟨w.heap.size + 1, 0, none⟩), .pointer (some ⟨w.heap.size, 0, none⟩)]] 26)) := by (repeat (first | with_reducible exact Below.refl _ _ | with_reducible assumption | with_reducible refine Below.alloc ?_ (by first | (simp; done) | (simp; omega) | omega) _ | with_reducible refine Below.setCell ?_ (by first | (simp; done) | (simp; omega) | omega) _ | with_reducible refine Below.drew ?_ | with_reducible refine below_drewN ?_ _))
  have k0 := keep hb e0
  have k1 := keep hb e1
  have k2 := keep hb e2
  have k3 := keep hb e3
  exact ⟨_, rfl, hb, _, _, rfl, (enters_of Tryz.func102 (by kernel_rfl) rfl), fun w1 h1 hp => tc_item A B time (w.heap.size + 1 + 1 + 1) (w.heap.size + 1 + 1) (w.heap.size + 1) w.heap.size b _ w1 h1 (hA.below hb) (hB.below hb) hp.1 hp.2 (by simp [go_sem]) (by simp [go_sem]) (by simp [go_sem]) (by simp [go_sem]) k0 k1 k2 k3⟩
theorem require_chk {pre : Prop} {b : Bool} (er : Int) (v : Value) (w : World) (h : Cnd pre b v w) :
    Calls Tryz.prog 56 #[.int .i64 er, v] w fun e w' => ∃ v', e = .returned v' ∧ Below w.heap.size w w' ∧ Chk pre (if b then 0 else er) v' w' := by
  obtain ⟨g, cb, rfl, he, hc⟩ := h
  refine (require_any er g cb w).mono ?_
  rintro e w' ⟨rfl, rfl⟩
  have hb : Below w.heap.size w ((w.alloc (.cells #[.int .i64 er] 30)).alloc (.cells #[.func (.func g) #[] cb] 26)) := by (repeat (first | with_reducible exact Below.refl _ _ | with_reducible assumption | with_reducible refine Below.alloc ?_ (by first | (simp; done) | (simp; omega) | omega) _ | with_reducible refine Below.setCell ?_ (by first | (simp; done) | (simp; omega) | omega) _ | with_reducible refine Below.drew ?_ | with_reducible refine below_drewN ?_ _))
  exact ⟨_, rfl, hb, _, _, rfl, (enters_of Tryz.func102 (by kernel_rfl) rfl), fun w1 h1 hp => require1_any (w.heap.size + 1) w.heap.size g cb er b w1 (keep h1 (by simp [go_sem])) (keep h1 (by simp [go_sem])) (lt_of (keep h1 (b := w.heap.size) (o := 0) (v := .int .i64 er) (by simp [go_sem]))) he (hc w1 (belowT hb h1) hp)⟩
end Go.Proofs.YtnfoagcpgegldaaGreat
namespace Go.Proofs.YtnfoagcpgegldaaGreat
open Go.RowKit Go.Shelf Go.Sort
attribute [local go_sem] idx3_0 idx3_1 idx3_2 old1 fro1 old2 fro2 old3 fro3 old4 fro4 old5 fro5 old6 fro6 old7 fro7 old8 fro8 old9 fro9 old10 fro10 old11 fro11 old12 fro12
set_option maxRecDepth 100000 in
set_option maxHeartbeats 400000 in
theorem btick_any (x : Int) (w : World) : Calls Tryz.prog 157 #[.int .i64 x] w fun e w' => e = .returned (.bool (wi x 0 1000000000000)) ∧ w = w' := by
  go_enter Tryz.func157, Tryz.ntmps157
  go_wp2_with (go_at_call 26; (with_reducible refine (bwithin_any _ _ _ _).mono ?_); rintro e w' ⟨rfl, rfl⟩)
  go_ret
  exact ⟨rfl, rfl⟩
set_option maxRecDepth 100000 in
set_option maxHeartbeats 800000 in
theorem bminus_any (x y z x0 y0 z0 : Int) (a1 : -1000000 ≤ x) (a2 : x ≤ 1000000) (a3 : -1000000 ≤ y) (a4 : y ≤ 1000000) (a5 : -1000000 ≤ z) (a6 : z ≤ 1000000) (b1 : -1000000 ≤ x0) (b2 : x0 ≤ 1000000) (b3 : -1000000 ≤ y0) (b4 : y0 ≤ 1000000) (b5 : -1000000 ≤ z0) (b6 : z0 ≤ 1000000) (w : World) :
    Calls Tryz.prog 148 #[.agg #[.int .i64 x, .int .i64 y, .int .i64 z], .agg #[.int .i64 x0, .int .i64 y0, .int .i64 z0]] w fun e w' => e = .returned (.agg #[.int .i64 (x - x0), .int .i64 (y - y0), .int .i64 (z - z0)]) ∧ Below w.heap.size w w' := by
  have u1 : IntKind.i64.wrap (x - x0) = x - x0 := IntWalk.i64_in _ (by omega)
  have u2 : IntKind.i64.wrap (y - y0) = y - y0 := IntWalk.i64_in _ (by omega)
  have u3 : IntKind.i64.wrap (z - z0) = z - z0 := IntWalk.i64_in _ (by omega)
  go_enter Tryz.func148, Tryz.ntmps148
  go_wp2_with fail
  refine bodyPost_ret (v := .agg #[.int .i64 (x - x0), .int .i64 (y - y0), .int .i64 (z - z0)]) (by simp [results, Tryz.results148, go_sem]) rfl ⟨rfl, by (repeat (first | with_reducible exact Below.refl _ _ | with_reducible assumption | with_reducible refine Below.alloc ?_ (by first | (simp; done) | (simp; omega) | omega) _ | with_reducible refine Below.setCell ?_ (by first | (simp; done) | (simp; omega) | omega) _ | with_reducible refine Below.drew ?_ | with_reducible refine below_drewN ?_ _))⟩
def sq3 (x y z : Int) : Int := x * x + y * y + z * z
theorem sq3_bd {x y z : Int} (a1 : -2000000 ≤ x) (a2 : x ≤ 2000000) (a3 : -2000000 ≤ y) (a4 : y ≤ 2000000) (a5 : -2000000 ≤ z) (a6 : z ≤ 2000000) : (0 ≤ x * x ∧ x * x ≤ 4000000000000) ∧ (0 ≤ y * y ∧ y * y ≤ 4000000000000) ∧ (0 ≤ z * z ∧ z * z ≤ 4000000000000) :=
  ⟨⟨sq_nn x, by have := sq_bd a1 a2; omega⟩, ⟨sq_nn y, by have := sq_bd a3 a4; omega⟩, ⟨sq_nn z, by have := sq_bd a5 a6; omega⟩⟩
set_option maxRecDepth 100000 in
set_option maxHeartbeats 800000 in
theorem bdot_any (x y z : Int) (a1 : -2000000 ≤ x) (a2 : x ≤ 2000000) (a3 : -2000000 ≤ y) (a4 : y ≤ 2000000) (a5 : -2000000 ≤ z) (a6 : z ≤ 2000000) (w : World) :
    Calls Tryz.prog 82 #[.agg #[.int .i64 x, .int .i64 y, .int .i64 z], .agg #[.int .i64 x, .int .i64 y, .int .i64 z]] w fun e w' => e = .returned (.int .i64 (sq3 x y z)) ∧ Below w.heap.size w w' := by
  obtain ⟨⟨p1, p2⟩, ⟨p3, p4⟩, ⟨p5, p6⟩⟩ := sq3_bd a1 a2 a3 a4 a5 a6
  have u1 : IntKind.i64.wrap (x * x) = x * x := IntWalk.i64_in _ (by omega)
  have u2 : IntKind.i64.wrap (y * y) = y * y := IntWalk.i64_in _ (by omega)
  have u3 : IntKind.i64.wrap (z * z) = z * z := IntWalk.i64_in _ (by omega)
  have u4 : IntKind.i64.wrap (x * x + y * y) = x * x + y * y := IntWalk.i64_in _ (by omega)
  have u5 : IntKind.i64.wrap (x * x + y * y + z * z) = x * x + y * y + z * z := IntWalk.i64_in _ (by omega)
  clear p1 p2 p3 p4 p5 p6
  go_enter Tryz.func82, Tryz.ntmps82
  go_wp2_with fail
  go_ret
  exact ⟨rfl, by (repeat (first | with_reducible exact Below.refl _ _ | with_reducible assumption | with_reducible refine Below.alloc ?_ (by first | (simp; done) | (simp; omega) | omega) _ | with_reducible refine Below.setCell ?_ (by first | (simp; done) | (simp; omega) | omega) _ | with_reducible refine Below.drew ?_ | with_reducible refine below_drewN ?_ _))⟩
set_option maxRecDepth 100000 in
set_option maxHeartbeats 800000 in
theorem bsquare_any (x y z : Int) (a1 : -2000000 ≤ x) (a2 : x ≤ 2000000) (a3 : -2000000 ≤ y) (a4 : y ≤ 2000000) (a5 : -2000000 ≤ z) (a6 : z ≤ 2000000) (w : World) :
    Calls Tryz.prog 120 #[.agg #[.int .i64 x, .int .i64 y, .int .i64 z]] w fun e w' => e = .returned (.int .i64 (sq3 x y z)) ∧ Below w.heap.size w w' := by
  go_enter Tryz.func120, Tryz.ntmps120
  go_wp2_with (go_at_call 82; (with_reducible refine Calls.mono (bdot_any x y z a1 a2 a3 a4 a5 a6 _) ?_); rintro e w1 ⟨rfl, hb1⟩; have B1 := thenB (show Below w.heap.size w _ by (repeat (first | with_reducible exact Below.refl _ _ | with_reducible assumption | with_reducible refine Below.alloc ?_ (by first | (simp; done) | (simp; omega) | omega) _ | with_reducible refine Below.setCell ?_ (by first | (simp; done) | (simp; omega) | omega) _ | with_reducible refine Below.drew ?_ | with_reducible refine below_drewN ?_ _))) hb1)
  go_ret
  exact ⟨rfl, B1⟩
theorem psum_sq3 (x y z x0 y0 z0 : Int) : psum x y z x0 y0 z0 3 = 4 * sq3 (x - x0) (y - y0) (z - z0) := by
  simp only [psum, sq3, show (0 : Int) < 3 by decide, show (1 : Int) < 3 by decide, show (2 : Int) < 3 by decide, if_true]
  generalize x - x0 = a
  generalize y - y0 = b
  generalize z - z0 = c
  rw [show 2 * a * (2 * a) = 4 * (a * a) by rw [Int.mul_assoc, Int.mul_left_comm a 2 a, ← Int.mul_assoc]; rfl, show 2 * b * (2 * b) = 4 * (b * b) by rw [Int.mul_assoc, Int.mul_left_comm b 2 b, ← Int.mul_assoc]; rfl, show 2 * c * (2 * c) = 4 * (c * c) by rw [Int.mul_assoc, Int.mul_left_comm c 2 c, ← Int.mul_assoc]; rfl]
  omega
end Go.Proofs.YtnfoagcpgegldaaGreat
