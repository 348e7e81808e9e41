/- Helpers: the numbers of the document's examples. -/
import Derived.Test.YtmhcmiajikffpaaB05
import Derived.Test.YtmhcmiajikffpaaB13
import Derived.Test.YtmhcmiajikffpaaB14
namespace Go.Proofs.Ytmhcmiajikffpaa
open Go.RowKit Go.Shelf Go.Sort
def kS : Nat → Knot := fun i => if i = 0 then ⟨0, 0, 0, 0⟩ else ⟨1000, 0, 0, 0⟩
def kP : Nat → Knot := fun i => if i = 0 then ⟨0, 300, 400, 0⟩ else ⟨1000, 600, 800, 0⟩
theorem sq_lt_sq {c x : Int} (hc : 0 ≤ c) (hx : 0 ≤ x) : c * c < x * x ↔ c < x := by
  constructor
  · intro h
    rcases Int.lt_or_le c x with h1 | h1
    · exact h1
    · have := Int.mul_le_mul h1 h1 hx hc
      omega
  · intro h
    have h1 := Int.mul_le_mul (show c + 1 ≤ x by omega) (show c + 1 ≤ x by omega) (by omega) hx
    rw [Int.add_mul, Int.mul_add, Int.mul_add] at h1
    omega
theorem RL_t {p : Int → Bool} {lo hi r m : Int} (h : RL p lo hi r) (h0 : lo ≤ m) (h1 : m ≤ hi + 1) (hp : ∀ e, lo ≤ e → e ≤ hi → (p e = true ↔ m ≤ e)) : r = m := by
  obtain ⟨a, b, c, d⟩ := h
  apply Int.le_antisymm
  · rcases c with c | c
    · omega
    · rcases Int.lt_or_le m r with h2 | h2
      · have := (hp (r - 1) (by omega) (by omega)).2 (by omega)
        rw [c] at this
        simp at this
      · exact h2
  · rcases d with d | d
    · omega
    · rcases Int.lt_or_le r m with h2 | h2
      · have := (hp r (by omega) (by omega)).1 d
        omega
      · exact h2
theorem ex_dist {A B : Trk} {r1 r2 : Int} (hA : A.k = kS ∧ A.n = 2 ∧ A.d = 0) (hB : B.k = kP ∧ B.n = 2 ∧ B.d = 0)
    (h1 : RL (fun e => decide (sqN A B 500 500 < e * vn (A.p 500) (B.p 500) * (e * vn (A.p 500) (B.p 500)))) 0 6006000 r1)
    (h2 : RL (fun e => !decide (e * vn (A.p 500) (B.p 500) * (e * vn (A.p 500) (B.p 500)) < sqF A B 500 500)) 0 6006000 r2) : r1 = 751 ∧ r2 = 750 := by
  have pa : A.p 500 = ⟨0, 0, 0, 1000⟩ := by unfold Trk.p; rw [hA.1, hA.2.1]; kernel_rfl
  have pb : B.p 500 = ⟨450000, 600000, 0, 1000⟩ := by unfold Trk.p; rw [hB.1, hB.2.1]; kernel_rfl
  have e1 : sqN A B 500 500 = 750000000 * 750000000 := by unfold sqN; rw [pa, pb, hA.2.2, hB.2.2]; kernel_rfl
  have e2 : sqF A B 500 500 = 750000000 * 750000000 := by unfold sqF; rw [pa, pb, hA.2.2, hB.2.2]; kernel_rfl
  have ev : vn (A.p 500) (B.p 500) = 1000000 := by rw [pa, pb]; kernel_rfl
  rw [ev, e1] at h1
  rw [ev, e2] at h2
  refine ⟨RL_t h1 (by omega) (by omega) (fun e h h' => ?_), RL_t h2 (by omega) (by omega) (fun e h h' => ?_)⟩
  · rw [decide_eq_true_iff, sq_lt_sq (by omega) (by omega)]
    omega
  · have := sq_lt_sq (c := e * 1000000) (x := 750000000) (by omega) (by omega)
    simp only [Bool.not_eq_true', decide_eq_false_iff_not, this]
    omega
def tS : Trk := ⟨0, 0, 2, 2, kS, 0⟩
def tP : Trk := ⟨0, 0, 2, 2, kP, 0⟩
theorem ex_arr : ((List.range 1001).all fun r => arrB tS tP 0 r == decide (r = 1000)) = true := by kernel_rfl
theorem ex_away : ((List.range 1001).all fun r => (!awayB tS tP 0 r) == decide (r = 1000)) = true := by kernel_rfl
theorem same_arr {A B A' B' : Trk} (hA : A.k = A'.k ∧ A.n = A'.n ∧ A.d = A'.d) (hB : B.k = B'.k ∧ B.n = B'.n ∧ B.d = B'.d) (s r : Int) : arrB A B s r = arrB A' B' s r ∧ awayB A B s r = awayB A' B' s r := by
  unfold arrB awayB sqF sqN Trk.p
  rw [hA.1, hA.2.1, hA.2.2, hB.1, hB.2.1, hB.2.2]
  exact ⟨rfl, rfl⟩
theorem ex_at {f : Int → Bool} (h : ((List.range 1001).all fun r => f r == decide (r = 1000)) = true) (e : Int) (h0 : 0 ≤ e) (h1 : e ≤ 1000) : f e = true ↔ 1000 ≤ e := by
  have := List.all_eq_true.1 h e.toNat (List.mem_range.2 (by omega))
  rw [beq_iff_eq, Int.toNat_of_nonneg h0] at this
  rw [this, decide_eq_true_iff]
  omega
theorem ex_recv {A B : Trk} {arr pos : Int} (hA : A.k = kS ∧ A.n = 2 ∧ A.d = 0) (hB : B.k = kP ∧ B.n = 2 ∧ B.d = 0) (h1 : RL (arrB A B 0) 0 1000 arr) (h2 : RL (fun r => !awayB A B 0 r) 0 arr pos) : arr = 1000 ∧ pos = 1000 := by
  have e1 : arr = 1000 := RL_t h1 (by omega) (by omega) (fun e h h' => by rw [(same_arr (A' := tS) (B' := tP) hA hB 0 e).1]; exact ex_at (f := arrB tS tP 0) ex_arr e h h')
  subst e1
  refine ⟨rfl, RL_t h2 (by omega) (by omega) (fun e h h' => ?_)⟩
  rw [(same_arr (A' := tS) (B' := tP) hA hB 0 e).2]
  exact ex_at (f := fun r => !awayB tS tP 0 r) ex_away e h h'
theorem ex_err (T : Int) (hT : T = 500 ∨ T = 0) {A B : TV} (hA : A.k = kS ∧ A.n = 2 ∧ A.d = 0) (hB : B.k = kP ∧ B.n = 2 ∧ B.d = 0) : distErr A B T = 0 := by
  unfold distErr bothErr timesErr TV.err
  rw [hA.1, hA.2.1, hA.2.2, hB.1, hB.2.1, hB.2.2]
  rcases hT with rfl | rfl <;> kernel_rfl
def x3 : Nat → Int := fun i => if i = 0 then 10 else if i = 1 then 30 else 95
theorem ex_pt : ptErr 100 (-150) 150 90 35 3 x3 = 0 := by kernel_rfl
theorem ex_ok : ∀ i, i < 3 → pOk 100 (-150) 150 90 35 3 x3 i := by
  intro i hi
  unfold pOk mok
  match i, hi with
  | 0, _ => exact (by decide +kernel)
  | 1, _ => exact (by decide +kernel)
  | 2, _ => exact (by decide +kernel)
theorem ex_trv : pTrv 100 (-150) 150 90 35 3 x3 3 = 75 := by kernel_rfl
theorem ex_pos : posL (pPos 100 (-150) 150 90 35 3 x3) 3 = [.int .i64 110, .int .i64 130, .int .i64 95] := by kernel_rfl
end Go.Proofs.Ytmhcmiajikffpaa
namespace Go.Proofs.Ytmhcmiajikffpaa
open Go.RowKit Go.Shelf Go.Sort
attribute [local go_sem] idx3_0 idx3_1 idx3_2 old1 fro1 old2 fro2 old3 fro3 old4 fro4 old5 fro5 old6 fro6 old7 fro7 old8 fro8 old9 fro9 old10 fro10 old11 fro11 old12 fro12
set_option maxRecDepth 100000 in
set_option maxHeartbeats 2000000 in
theorem track2 {w : World} {b : Nat} {k : Nat → Knot} (h : ∀ i, i < 2 → w.cell? ⟨b, 0 + i * 4, none⟩ = some (.int .i64 (k i).t) ∧ w.cell? ⟨b, 0 + i * 4 + 1, none⟩ = some (.int .i64 (k i).x) ∧ w.cell? ⟨b, 0 + i * 4 + 2, none⟩ = some (.int .i64 (k i).y) ∧ w.cell? ⟨b, 0 + i * 4 + 3, none⟩ = some (.int .i64 (k i).z)) :
    TV.At ⟨some ⟨b, 0, none⟩, 2, 2, k, 0⟩ w := ⟨fun _ => ⟨b, 0, rfl, lt_of (h 0 (by omega)).1, h⟩, by show 2 ≤ 9223372036854775807; omega⟩
theorem station_any (w : World) : Calls Try.prog 32 #[] w fun e w' => ∃ b, e = .returned (.agg #[.slice (some ⟨b, 0, none⟩) 2 2, .int .i64 0]) ∧ TV.At ⟨some ⟨b, 0, none⟩, 2, 2, kS, 0⟩ w' ∧ Below w.heap.size w w' := by
  go_enter Try.func32, Try.ntmps32
  go_wp2_with fail
  refine bodyPost_ret (v := .agg #[.slice (some ⟨w.heap.size + 1, 0, none⟩) 2 2, .int .i64 0]) (by simp [results, Try.results32, go_sem]) rfl ?_
  refine ⟨_, rfl, track2 (fun i hi => ?_), by (repeat (first | with_reducible exact Below.refl _ _ | with_reducible assumption | with_reducible refine Below.alloc ?_ (by first | (simp; done) | (simp; omega) | omega) _ | with_reducible refine Below.setCell ?_ (by first | (simp; done) | (simp; omega) | omega) _ | with_reducible refine Below.drew ?_ | with_reducible refine below_drewN ?_ _))⟩
  match i, hi with
  | 0, _ => refine ⟨?_, ?_, ?_, ?_⟩ <;> simp [go_sem, kS]
  | 1, _ => refine ⟨?_, ?_, ?_, ?_⟩ <;> simp [go_sem, kS]
theorem probe_any (w : World) : Calls Try.prog 33 #[] w fun e w' => ∃ b, e = .returned (.agg #[.slice (some ⟨b, 0, none⟩) 2 2, .int .i64 0]) ∧ TV.At ⟨some ⟨b, 0, none⟩, 2, 2, kP, 0⟩ w' ∧ Below w.heap.size w w' := by
  go_enter Try.func33, Try.ntmps33
  go_wp2_with fail
  refine bodyPost_ret (v := .agg #[.slice (some ⟨w.heap.size + 1, 0, none⟩) 2 2, .int .i64 0]) (by simp [results, Try.results33, go_sem]) rfl ?_
  refine ⟨_, rfl, track2 (fun i hi => ?_), by (repeat (first | with_reducible exact Below.refl _ _ | with_reducible assumption | with_reducible refine Below.alloc ?_ (by first | (simp; done) | (simp; omega) | omega) _ | with_reducible refine Below.setCell ?_ (by first | (simp; done) | (simp; omega) | omega) _ | with_reducible refine Below.drew ?_ | with_reducible refine below_drewN ?_ _))⟩
  match i, hi with
  | 0, _ => refine ⟨?_, ?_, ?_, ?_⟩ <;> simp [go_sem, kP]
  | 1, _ => refine ⟨?_, ?_, ?_, ?_⟩ <;> simp [go_sem, kP]
theorem drive_any (w : World) : Calls Try.prog 34 #[] w fun e w' => e = .returned (.agg #[.int .i64 100, .int .i64 (-150), .int .i64 150, .int .i64 90, .int .i64 35]) ∧ Below w.heap.size w w' := by
  go_enter Try.func34, Try.ntmps34
  go_wp2_with fail
  refine bodyPost_ret (v := .agg #[.int .i64 100, .int .i64 (-150), .int .i64 150, .int .i64 90, .int .i64 35]) (by simp [results, Try.results34, go_sem]) rfl ?_
  exact ⟨rfl, by (repeat (first | with_reducible exact Below.refl _ _ | with_reducible assumption | with_reducible refine Below.alloc ?_ (by first | (simp; done) | (simp; omega) | omega) _ | with_reducible refine Below.setCell ?_ (by first | (simp; done) | (simp; omega) | omega) _ | with_reducible refine Below.drew ?_ | with_reducible refine below_drewN ?_ _))⟩
theorem ints_any (A B : Option Addr) (n c m c' : Nat) (xs ys : Nat → Int) (w : World) (hn : n ≤ 1000000) (hA : IA w A n xs) (hB : IA w B m ys) :
    Calls Try.prog 25 #[.slice A n c, .slice B m c'] w fun e w' => e = .returned (.bool (n == m && (List.range n).all fun i => xs i == ys i)) ∧ Below w.heap.size w w' := by
  by_cases hnm : n = m
  · subst hnm
    have HA := Lib.hid hA
    have HB := Lib.hid hB
    clear hA hB
    go_enter Try.func25, Try.ntmps25
    go_wp2_with fail
    go_loopw [5] (fun i wr => ∃ k : Nat, k ≤ n ∧ i = .int .i64 k ∧ Hid (∀ j, j < k → xs j = ys j) ∧ Below w.heap.size w wr) (fun i _ => n - (intOf i).toNat)
    case atStart => exact ⟨0, Nat.zero_le _, rfl, fun j hj => absurd hj (Nat.not_lt_zero _), by (repeat (first | with_reducible exact Below.refl _ _ | with_reducible assumption | with_reducible refine Below.alloc ?_ (by first | (simp; done) | (simp; omega) | omega) _ | with_reducible refine Below.setCell ?_ (by first | (simp; done) | (simp; omega) | omega) _ | with_reducible refine Below.drew ?_ | with_reducible refine below_drewN ?_ _))⟩
    case round =>
      obtain ⟨k, hk, rfl, H, hbel⟩ := hrel
      by_cases hlt : k < n
      · obtain ⟨b1, o1, rfl, hc1⟩ := HA.out (by omega)
        obtain ⟨b2, o2, rfl, hc2⟩ := HB.out (by omega)
        have q1 := keep hbel (hc1 k hlt)
        have q2 := keep hbel (hc2 k hlt)
        have hws := hbel.size
        have p1 : (0 : Int) ≤ (k : Int) := by omega
        have p2 : (k : Int) < (n : Int) := by omega
        have HL := Lib.hid hlt
        clear hc1 hc2
        by_cases he : xs k = ys k
        · have g1 : (xs k != ys k) = false := by simp [he]
          have HE := Lib.hid he
          clear he
          go_wp2_with fail
          go_region_held3 (fun w' => w'.cell? ⟨b1, o1 + k, none⟩ = some (.int .i64 (xs k)) ∧ w'.cell? ⟨b2, o2 + k, none⟩ = some (.int .i64 (ys k))) (simp [go_sem, *]) (first | fail)
          all_goals
            go_wp2
            go_roundw
            case rel => exact ⟨k + 1, by omega, by go_num, fun j hj => (by
              rcases Nat.lt_or_eq_of_le (Nat.le_of_lt_succ hj) with h | h
              · exact H.out j h
              · rw [h]; exact HE.out), by (repeat (first | with_reducible exact Below.refl _ _ | with_reducible assumption | with_reducible refine Below.alloc ?_ (by first | (simp; done) | (simp; omega) | omega) _ | with_reducible refine Below.setCell ?_ (by first | (simp; done) | (simp; omega) | omega) _ | with_reducible refine Below.drew ?_ | with_reducible refine below_drewN ?_ _))⟩
            case measure => simp [intOf]; omega
        · have g1 : (xs k != ys k) = true := by simp [he]
          have HE := Lib.hid he
          clear he
          go_wp2_with fail
          go_region_held3 (fun w' => w'.cell? ⟨b1, o1 + k, none⟩ = some (.int .i64 (xs k)) ∧ w'.cell? ⟨b2, o2 + k, none⟩ = some (.int .i64 (ys k))) (simp [go_sem, *]) (first | fail)
          all_goals
            go_wp2
            go_ret
            refine ⟨ret_bool ?_, by (repeat (first | with_reducible exact Below.refl _ _ | with_reducible assumption | with_reducible refine Below.alloc ?_ (by first | (simp; done) | (simp; omega) | omega) _ | with_reducible refine Below.setCell ?_ (by first | (simp; done) | (simp; omega) | omega) _ | with_reducible refine Below.drew ?_ | with_reducible refine below_drewN ?_ _))⟩
            simp only [beq_self_eq_true, Bool.true_and]
            refine (List.all_eq_false.2 ⟨k, List.mem_range.2 HL.out, ?_⟩).symm
            simpa using HE.out
      · obtain rfl : k = n := by omega
        go_wp2
        go_ret
        refine ⟨ret_bool ?_, hbel⟩
        simp only [beq_self_eq_true, Bool.true_and]
        exact (List.all_eq_true.2 fun j hj => by simpa using H.out j (List.mem_range.1 hj)).symm
  · have g0 : (((n : Int) != (m : Int)) = true) := by simp; omega
    rw [show (n == m) = false by simpa using hnm]
    go_enter Try.func25, Try.ntmps25
    go_wp2_with fail
    go_ret
    exact ⟨rfl, by (repeat (first | with_reducible exact Below.refl _ _ | with_reducible assumption | with_reducible refine Below.alloc ?_ (by first | (simp; done) | (simp; omega) | omega) _ | with_reducible refine Below.setCell ?_ (by first | (simp; done) | (simp; omega) | omega) _ | with_reducible refine Below.drew ?_ | with_reducible refine below_drewN ?_ _))⟩
theorem ex1 (w : World) (b1 b2 : Nat) (h1 : TV.At ⟨some ⟨b1, 0, none⟩, 2, 2, kS, 0⟩ w) (h2 : TV.At ⟨some ⟨b2, 0, none⟩, 2, 2, kP, 0⟩ w) :
    Calls Try.prog 15 #[.agg #[.slice (some ⟨b1, 0, none⟩) 2 2, .int .i64 0], .agg #[.slice (some ⟨b2, 0, none⟩) 2 2, .int .i64 0], .int .i64 500] w fun e w' => e = .returned (.tuple #[.agg #[.int .i64 750, .int .i64 750], .int .i64 0]) ∧ Below w.heap.size w w' :=
  (distanceAt_x _ _ 2 2 2 2 kS kP 0 0 500 w h1 h2).mono (by
    rintro e w' ⟨hb, hh⟩
    rw [if_pos (ex_err 500 (.inl rfl) ⟨rfl, rfl, rfl⟩ ⟨rfl, rfl, rfl⟩)] at hh
    obtain ⟨A', B', r1, r2, hA, hB, rfl, h1, h2⟩ := hh
    obtain ⟨rfl, rfl⟩ := ex_dist hA hB h1 h2
    exact ⟨rfl, hb⟩)
theorem ex2 (w : World) (b1 b2 : Nat) (h1 : TV.At ⟨some ⟨b1, 0, none⟩, 2, 2, kS, 0⟩ w) (h2 : TV.At ⟨some ⟨b2, 0, none⟩, 2, 2, kP, 0⟩ w) :
    Calls Try.prog 30 #[.agg #[.slice (some ⟨b1, 0, none⟩) 2 2, .int .i64 0], .agg #[.slice (some ⟨b2, 0, none⟩) 2 2, .int .i64 0], .int .i64 0] w fun e w' => e = .returned (.tuple #[.agg #[.int .i64 999, .int .i64 1000], .int .i64 0]) ∧ Below w.heap.size w w' :=
  (receivedAt_x _ _ 2 2 2 2 kS kP 0 0 0 w h1 h2).mono (by
    rintro e w' ⟨hb, hh⟩
    rw [if_pos (ex_err 0 (.inr rfl) ⟨rfl, rfl, rfl⟩ ⟨rfl, rfl, rfl⟩)] at hh
    obtain ⟨A', B', arr, hA, hB, h1, hh⟩ := hh
    have e1 : (kP (2 - 1)).t = 1000 := rfl
    simp only [e1] at h1 hh
    have hR : arr = 1000 := RL_t h1 (by omega) (by omega) (fun e h h' => by rw [(same_arr (A' := tS) (B' := tP) hA hB 0 e).1]; exact ex_at (f := arrB tS tP 0) ex_arr e h h')
    rcases hh with ⟨h3, _⟩ | ⟨_, pos, h2, rfl⟩
    · omega
    · obtain ⟨rfl, rfl⟩ := ex_recv hA hB h1 h2
      exact ⟨rfl, hb⟩)
def y3 : Nat → Int := fun i => if i = 0 then 110 else if i = 1 then 130 else 95
theorem ia3 {w : World} {b : Nat} {a0 a1 a2 : Int} {xs : Nat → Int} (h0 : w.cell? ⟨b, 0 + 0, none⟩ = some (.int .i64 a0)) (h1 : w.cell? ⟨b, 0 + 1, none⟩ = some (.int .i64 a1)) (h2 : w.cell? ⟨b, 0 + 2, none⟩ = some (.int .i64 a2)) (e0 : xs 0 = a0) (e1 : xs 1 = a1) (e2 : xs 2 = a2) : IA w (some ⟨b, 0, none⟩) 3 xs := fun _ => ⟨b, 0, rfl, fun i hi => by
  match i, hi with
  | 0, _ => rw [e0]; exact h0
  | 1, _ => rw [e1]; exact h1
  | 2, _ => rw [e2]; exact h2⟩
theorem ex3 (w : World) (A : Option Addr) (hA : IA w A 3 x3) :
    Calls Try.prog 19 #[.agg #[.int .i64 100, .int .i64 (-150), .int .i64 150, .int .i64 90, .int .i64 35], .slice A 3 3] w fun e w' => ∃ A2 c2, e = .returned (.tuple #[.slice A2 3 c2, .int .i64 75, .int .i64 0]) ∧ IA w' A2 3 y3 ∧ Below w.heap.size w w' :=
  (pointing_any 100 (-150) 150 90 35 A 3 3 x3 w (by omega) hA).mono (by
    rintro e w' ⟨hb, _, h⟩
    rcases h ex_pt with ⟨_, _, v, rfl, hv⟩ | ⟨⟨i, hi, hn⟩, _⟩
    · rw [ex_pos] at hv
      rw [ex_trv]
      obtain ⟨hv1, hv2⟩ := own_parts hv
      have hv3 := (hv2 (by omega)).1
      rw [hv3] at hv1
      rw [hv1] at hv ⊢
      have hc := fun i u h => hv.cells (g := sG v) rfl i u h
      refine ⟨_, _, rfl, ia3 (a0 := 110) (a1 := 130) (a2 := 95) ?_ ?_ ?_ rfl rfl rfl, hb⟩
      · simpa [Addr.add] using hc 0 _ rfl
      · simpa [Addr.add] using hc 1 _ rfl
      · simpa [Addr.add] using hc 2 _ rfl
    · exact absurd (ex_ok i hi) hn)
theorem thenB {w X Y : World} (h : Below w.heap.size w X) (h2 : Below X.heap.size X Y) : Below w.heap.size w Y := h.trans (h2.mono h.size)
theorem keepA {w : World} {a : Addr} {v : Value} (o : Obj) (h : w.cell? a = some v) : (w.alloc o).cell? a = some v := (World.cell?_alloc_some w a o (by rw [h]; rfl)).trans h
theorem two_new {w : World} {a b : Value} {T : TypeId} : (w.alloc (.cells #[a, b] T)).cell? ⟨w.heap.size, 0, none⟩ = some a ∧ (w.alloc (.cells #[a, b] T)).cell? ⟨w.heap.size, 1, none⟩ = some b := ⟨by simp [go_sem], by simp [go_sem]⟩
set_option maxRecDepth 100000 in
set_option maxHeartbeats 2000000 in
theorem awake_any (w : World) : Calls Try.prog 6 #[] w fun e w' => e = .returned (.bool true) ∧ Below w.heap.size w w' := by
  go_enter Try.func6, Try.ntmps6
  go_wp2_with (first
    | (go_at_call 32; (with_reducible refine Calls.mono (station_any _) ?_); rintro e w1 ⟨b1, rfl, t1, hb1⟩; have B := thenB (show Below w.heap.size w _ by (repeat (first | with_reducible exact Below.refl _ _ | with_reducible assumption | with_reducible refine Below.alloc ?_ (by first | (simp; done) | (simp; omega) | omega) _ | with_reducible refine Below.setCell ?_ (by first | (simp; done) | (simp; omega) | omega) _ | with_reducible refine Below.drew ?_ | with_reducible refine below_drewN ?_ _))) hb1; have Bz := B.size)
    | (go_at_call 33; (with_reducible refine Calls.mono (probe_any _) ?_); rintro e w2 ⟨b2, rfl, t2, hb2⟩; have t3 := t1.below hb2; have B := thenB (show Below w.heap.size w _ by (repeat (first | with_reducible exact Below.refl _ _ | with_reducible assumption | with_reducible refine Below.alloc ?_ (by first | (simp; done) | (simp; omega) | omega) _ | with_reducible refine Below.setCell ?_ (by first | (simp; done) | (simp; omega) | omega) _ | with_reducible refine Below.drew ?_ | with_reducible refine below_drewN ?_ _))) hb2; have Bz := B.size)
    | (go_at_call 15; (with_reducible refine Calls.mono (ex1 _ _ _ t3 t2) ?_); rintro e w3 ⟨rfl, hb3⟩; have B := thenB (show Below w.heap.size w _ by (repeat (first | with_reducible exact Below.refl _ _ | with_reducible assumption | with_reducible refine Below.alloc ?_ (by first | (simp; done) | (simp; omega) | omega) _ | with_reducible refine Below.setCell ?_ (by first | (simp; done) | (simp; omega) | omega) _ | with_reducible refine Below.drew ?_ | with_reducible refine below_drewN ?_ _))) hb3; have Bz := B.size)
    | (go_at_call 30; (with_reducible refine Calls.mono (ex2 _ _ _ t3 t2) ?_); rintro e w4 ⟨rfl, hb4⟩; have B := thenB (show Below w.heap.size w _ by (repeat (first | with_reducible exact Below.refl _ _ | with_reducible assumption | with_reducible refine Below.alloc ?_ (by first | (simp; done) | (simp; omega) | omega) _ | with_reducible refine Below.setCell ?_ (by first | (simp; done) | (simp; omega) | omega) _ | with_reducible refine Below.drew ?_ | with_reducible refine below_drewN ?_ _))) hb4; have Bz := B.size)
    | (go_at_call 34; (with_reducible refine Calls.mono (drive_any _) ?_); rintro e w5 ⟨rfl, hb5⟩; have B := thenB (show Below w.heap.size w _ by (repeat (first | with_reducible exact Below.refl _ _ | with_reducible assumption | with_reducible refine Below.alloc ?_ (by first | (simp; done) | (simp; omega) | omega) _ | with_reducible refine Below.setCell ?_ (by first | (simp; done) | (simp; omega) | omega) _ | with_reducible refine Below.drew ?_ | with_reducible refine below_drewN ?_ _))) hb5; have Bz := B.size)
    | (go_at_call 19; go_loud (with_reducible refine Calls.mono (ex3 _ _ (ia3 (a0 := 10) (a1 := 30) (a2 := 95) (by simp [go_sem]) (by simp [go_sem]) (by simp [go_sem]) rfl rfl rfl)) ?_; rintro e w6 ⟨A6, c6, rfl, t6, hb6⟩; have B := thenB (show Below w.heap.size w _ by (repeat (first | with_reducible exact Below.refl _ _ | with_reducible assumption | with_reducible refine Below.alloc ?_ (by first | (simp; done) | (simp; omega) | omega) _ | with_reducible refine Below.setCell ?_ (by first | (simp; done) | (simp; omega) | omega) _ | with_reducible refine Below.drew ?_ | with_reducible refine below_drewN ?_ _))) hb6; have Bz := B.size; have d0 := keep hb6 (keepA _ (keep hb5 (keepA _ (keep hb4 (keep hb2 (keep hb1 (two_new (w := w3)).1)))))); have d1 := keep hb6 (keepA _ (keep hb5 (keepA _ (keep hb4 (keep hb2 (keep hb1 (two_new (w := w3)).2)))))); have r0 := keep hb6 (keepA _ (keep hb5 (two_new (w := w4)).1)); have r1 := keep hb6 (keepA _ (keep hb5 (two_new (w := w4)).2))))
    | (go_at_call 25; go_loud (with_reducible refine Calls.mono (ints_any A6 _ 3 c6 3 3 y3 y3 _ (by omega) (t6.below (by (repeat (first | with_reducible exact Below.refl _ _ | with_reducible assumption | with_reducible refine Below.alloc ?_ (by first | (simp; done) | (simp; omega) | omega) _ | with_reducible refine Below.setCell ?_ (by first | (simp; done) | (simp; omega) | omega) _ | with_reducible refine Below.drew ?_ | with_reducible refine below_drewN ?_ _)))) (ia3 (a0 := 110) (a1 := 130) (a2 := 95) (by simp [go_sem]) (by simp [go_sem]) (by simp [go_sem]) rfl rfl rfl)) ?_; rintro e w7 ⟨rfl, hb7⟩; have B := thenB (show Below w.heap.size w _ by (repeat (first | with_reducible exact Below.refl _ _ | with_reducible assumption | with_reducible refine Below.alloc ?_ (by first | (simp; done) | (simp; omega) | omega) _ | with_reducible refine Below.setCell ?_ (by first | (simp; done) | (simp; omega) | omega) _ | with_reducible refine Below.drew ?_ | with_reducible refine below_drewN ?_ _))) hb7; have Bz := B.size)))
  go_ret
  exact ⟨rfl, B⟩
end Go.Proofs.Ytmhcmiajikffpaa
namespace Go.Proofs.Ytmhcmiajikffpaa
open Go.RowKit Go.Shelf Go.Sort
attribute [local go_sem] idx3_0 idx3_1 idx3_2 old1 fro1 old2 fro2 old3 fro3 old4 fro4 old5 fro5 old6 fro6 old7 fro7 old8 fro8 old9 fro9 old10 fro10 old11 fro11 old12 fro12
/-- The error of a position x for the target y, behind the position bf. -/
def cpE (t lo hi ra x y bf : Int) : Int := if wi x lo hi then (if Int.tmod (x - y) t == 0 then (if decide (siz (x - bf) ≤ ra) then 0 else 24) else 13) else 23
theorem cpE_0 {t lo hi ra x y bf : Int} (h : cpE t lo hi ra x y bf = 0) : (lo ≤ x ∧ x ≤ hi) ∧ siz (x - bf) ≤ ra := by
  unfold cpE at h
  cases h1 : wi x lo hi <;> simp [h1] at h
  refine ⟨wi_t.1 h1, ?_⟩
  by_cases h2 : (x - y).tmod t = 0
  · rw [if_pos h2] at h
    by_cases h3 : siz (x - bf) ≤ ra
    · exact h3
    · rw [if_neg h3] at h; omega
  · rw [if_neg h2] at h; omega
theorem ret2_int {k l : IntKind} {a b a' b' : Int} (h : a = a') (h2 : b = b') : Ending.returned (.tuple #[.int k a, .int l b]) = .returned (.tuple #[.int k a', .int l b']) := by rw [h, h2]
/-- The position before step k of a motion, and its travel so far. -/
def cbf (st : Int) (ys : Nat → Int) : Nat → Int
  | 0 => st
  | k + 1 => ys k
def ctv (st : Int) (ys : Nat → Int) : Nat → Int
  | 0 => 0
  | k + 1 => ctv st ys k + siz (ys k - cbf st ys k)
theorem ferr_hit {er : Nat → Int} {k : Nat} (hk : er k ≠ 0) : ∀ (n i : Nat), i ≤ k → k < i + n → (∀ j, i ≤ j → j < k → er j = 0) → ferr er i n = er k
  | 0, i, h1, h2, _ => by omega
  | n + 1, i, h1, h2, h => by
    by_cases hi : i = k
    · subst hi
      simp only [ferr]
      rw [if_neg hk]
    · simp only [ferr]
      rw [if_pos (h i (Nat.le_refl i) (by omega))]
      exact ferr_hit hk n (i + 1) (by omega) (by omega) (fun j h3 h4 => h j (by omega) h4)
theorem ferr_miss {er : Nat → Int} : ∀ (n i : Nat), (∀ j, i ≤ j → j < i + n → er j = 0) → ferr er i n = 0
  | 0, _, _ => rfl
  | n + 1, i, h => by
    simp only [ferr]
    rw [if_pos (h i (Nat.le_refl i) (by omega))]
    exact ferr_miss n (i + 1) (fun j h1 h2 => h j (by omega) (by omega))
def cpi (t lo hi st ra : Int) (xs ys : Nat → Int) (i : Nat) : Int := cpE t lo hi ra (ys i) (xs i) (cbf st ys i)
theorem cbf_in {t lo hi st ra : Int} {xs ys : Nat → Int} (f1 : lo ≤ st) (f2 : st ≤ hi) (k : Nat) (h : ∀ i, i < k → cpi t lo hi st ra xs ys i = 0) : lo ≤ cbf st ys k ∧ cbf st ys k ≤ hi := by
  cases k with
  | zero => exact ⟨f1, f2⟩
  | succ k => exact (cpE_0 (h k (Nat.lt_succ_self k))).1
theorem ctv_in {t lo hi st ra : Int} {xs ys : Nat → Int} (r1 : ra ≤ 40000) (k : Nat) (h : ∀ i, i < k → cpi t lo hi st ra xs ys i = 0) : 0 ≤ ctv st ys k ∧ ctv st ys k ≤ 40000 * k := by
  induction k with
  | zero => simp [ctv]
  | succ k ih =>
    have i1 := ih (fun i hi => h i (by omega))
    have i2 := (cpE_0 (h k (Nat.lt_succ_self k))).2
    have i3 := siz_nn (ys k - cbf st ys k)
    show 0 ≤ ctv st ys k + siz (ys k - cbf st ys k) ∧ ctv st ys k + siz (ys k - cbf st ys k) ≤ _
    omega
def cpTr (t lo hi st ra : Int) (n : Nat) (xs ys : Nat → Int) : Int := if ferr (cpi t lo hi st ra xs ys) 0 n = 0 then ctv st ys n else 0
end Go.Proofs.Ytmhcmiajikffpaa
