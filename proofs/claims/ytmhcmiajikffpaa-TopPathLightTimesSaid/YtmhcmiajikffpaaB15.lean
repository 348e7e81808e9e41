/- Helpers: the numbers of the document's examples. -/
import Derived.Test.YtmhcmiajikffpaaB05
import Derived.Test.YtmhcmiajikffpaaB13
import Derived.Test.YtmhcmiajikffpaaB14
namespace Go.Proofs.Ytmhcmiajikffpaa
open Go.RowKit Go.Shelf Go.Sort
def kS : Nat → Knot := fun i => if i = 0 then ⟨0, 0, 0, 0⟩ else ⟨1000, 0, 0, 0⟩
def kP : Nat → Knot := fun i => if i = 0 then ⟨0, 300, 400, 0⟩ else ⟨1000, 600, 800, 0⟩
theorem sq_lt_sq {c x : Int} (hc : 0 ≤ c) (hx : 0 ≤ x) : c * c < x * x ↔ c < x := by
  constructor
  · intro h
    rcases Int.lt_or_le c x with h1 | h1
    · exact h1
    · have := Int.mul_le_mul h1 h1 hx hc
      omega
  · intro h
    have h1 := Int.mul_le_mul (show c + 1 ≤ x by omega) (show c + 1 ≤ x by omega) (by omega) hx
    rw [Int.add_mul, Int.mul_add, Int.mul_add] at h1
    omega
theorem RL_t {p : Int → Bool} {lo hi r m : Int} (h : RL p lo hi r) (h0 : lo ≤ m) (h1 : m ≤ hi + 1) (hp : ∀ e, lo ≤ e → e ≤ hi → (p e = true ↔ m ≤ e)) : r = m := by
  obtain ⟨a, b, c, d⟩ := h
  apply Int.le_antisymm
  · rcases c with c | c
    · omega
    · rcases Int.lt_or_le m r with h2 | h2
      · have := (hp (r - 1) (by omega) (by omega)).2 (by omega)
        rw [c] at this
        simp at this
      · exact h2
  · rcases d with d | d
    · omega
    · rcases Int.lt_or_le r m with h2 | h2
      · have := (hp r (by omega) (by omega)).1 d
        omega
      · exact h2
theorem ex_dist {A B : Trk} {r1 r2 : Int} (hA : A.k = kS ∧ A.n = 2 ∧ A.d = 0) (hB : B.k = kP ∧ B.n = 2 ∧ B.d = 0)
    (h1 : RL (fun e => decide (sqN A B 500 500 < e * vn (A.p 500) (B.p 500) * (e * vn (A.p 500) (B.p 500)))) 0 6006000 r1)
    (h2 : RL (fun e => !decide (e * vn (A.p 500) (B.p 500) * (e * vn (A.p 500) (B.p 500)) < sqF A B 500 500)) 0 6006000 r2) : r1 = 751 ∧ r2 = 750 := by
  have pa : A.p 500 = ⟨0, 0, 0, 1000⟩ := by unfold Trk.p; rw [hA.1, hA.2.1]; kernel_rfl
  have pb : B.p 500 = ⟨450000, 600000, 0, 1000⟩ := by unfold Trk.p; rw [hB.1, hB.2.1]; kernel_rfl
  have e1 : sqN A B 500 500 = 750000000 * 750000000 := by unfold sqN; rw [pa, pb, hA.2.2, hB.2.2]; kernel_rfl
  have e2 : sqF A B 500 500 = 750000000 * 750000000 := by unfold sqF; rw [pa, pb, hA.2.2, hB.2.2]; kernel_rfl
  have ev : vn (A.p 500) (B.p 500) = 1000000 := by rw [pa, pb]; kernel_rfl
  rw [ev, e1] at h1
  rw [ev, e2] at h2
  refine ⟨RL_t h1 (by omega) (by omega) (fun e h h' => ?_), RL_t h2 (by omega) (by omega) (fun e h h' => ?_)⟩
  · rw [decide_eq_true_iff, sq_lt_sq (by omega) (by omega)]
    omega
  · have := sq_lt_sq (c := e * 1000000) (x := 750000000) (by omega) (by omega)
    simp only [Bool.not_eq_true', decide_eq_false_iff_not, this]
    omega
def tS : Trk := ⟨0, 0, 2, 2, kS, 0⟩
def tP : Trk := ⟨0, 0, 2, 2, kP, 0⟩
theorem ex_arr : ((List.range 1001).all fun r => arrB tS tP 0 r == decide (r = 1000)) = true := by kernel_rfl
theorem ex_away : ((List.range 1001).all fun r => (!awayB tS tP 0 r) == decide (r = 1000)) = true := by kernel_rfl
theorem same_arr {A B A' B' : Trk} (hA : A.k = A'.k ∧ A.n = A'.n ∧ A.d = A'.d) (hB : B.k = B'.k ∧ B.n = B'.n ∧ B.d = B'.d) (s r : Int) : arrB A B s r = arrB A' B' s r ∧ awayB A B s r = awayB A' B' s r := by
  unfold arrB awayB sqF sqN Trk.p
  rw [hA.1, hA.2.1, hA.2.2, hB.1, hB.2.1, hB.2.2]
  exact ⟨rfl, rfl⟩
theorem ex_at {f : Int → Bool} (h : ((List.range 1001).all fun r => f r == decide (r = 1000)) = true) (e : Int) (h0 : 0 ≤ e) (h1 : e ≤ 1000) : f e = true ↔ 1000 ≤ e := by
  have := List.all_eq_true.1 h e.toNat (List.mem_range.2 (by omega))
  rw [beq_iff_eq, Int.toNat_of_nonneg h0] at this
  rw [this, decide_eq_true_iff]
  omega
theorem ex_recv {A B : Trk} {arr pos : Int} (hA : A.k = kS ∧ A.n = 2 ∧ A.d = 0) (hB : B.k = kP ∧ B.n = 2 ∧ B.d = 0) (h1 : RL (arrB A B 0) 0 1000 arr) (h2 : RL (fun r => !awayB A B 0 r) 0 arr pos) : arr = 1000 ∧ pos = 1000 := by
  have e1 : arr = 1000 := RL_t h1 (by omega) (by omega) (fun e h h' => by rw [(same_arr (A' := tS) (B' := tP) hA hB 0 e).1]; exact ex_at (f := arrB tS tP 0) ex_arr e h h')
  subst e1
  refine ⟨rfl, RL_t h2 (by omega) (by omega) (fun e h h' => ?_)⟩
  rw [(same_arr (A' := tS) (B' := tP) hA hB 0 e).2]
  exact ex_at (f := fun r => !awayB tS tP 0 r) ex_away e h h'
theorem ex_err (T : Int) (hT : T = 500 ∨ T = 0) {A B : TV} (hA : A.k = kS ∧ A.n = 2 ∧ A.d = 0) (hB : B.k = kP ∧ B.n = 2 ∧ B.d = 0) : distErr A B T = 0 := by
  unfold distErr bothErr timesErr TV.err
  rw [hA.1, hA.2.1, hA.2.2, hB.1, hB.2.1, hB.2.2]
  rcases hT with rfl | rfl <;> kernel_rfl
def x3 : Nat → Int := fun i => if i = 0 then 10 else if i = 1 then 30 else 95
theorem ex_pt : ptErr 100 (-150) 150 90 35 3 x3 = 0 := by kernel_rfl
theorem ex_ok : ∀ i, i < 3 → pOk 100 (-150) 150 90 35 3 x3 i := by
  intro i hi
  unfold pOk mok
  match i, hi with
  | 0, _ => exact (by decide +kernel)
  | 1, _ => exact (by decide +kernel)
  | 2, _ => exact (by decide +kernel)
theorem ex_trv : pTrv 100 (-150) 150 90 35 3 x3 3 = 75 := by kernel_rfl
theorem ex_pos : posL (pPos 100 (-150) 150 90 35 3 x3) 3 = [.int .i64 110, .int .i64 130, .int .i64 95] := by kernel_rfl
end Go.Proofs.Ytmhcmiajikffpaa
namespace Go.Proofs.Ytmhcmiajikffpaa
open Go.RowKit Go.Shelf Go.Sort
attribute [local go_sem] idx3_0 idx3_1 idx3_2 old1 fro1 old2 fro2 old3 fro3 old4 fro4 old5 fro5 old6 fro6 old7 fro7 old8 fro8 old9 fro9 old10 fro10 old11 fro11 old12 fro12
set_option maxRecDepth 100000 in
set_option maxHeartbeats 2000000 in
theorem track2 {w : World} {b : Nat} {k : Nat → Knot} (h : ∀ i, i < 2 → w.cell? ⟨b, 0 + i * 4, none⟩ = some (.int .i64 (k i).t) ∧ w.cell? ⟨b, 0 + i * 4 + 1, none⟩ = some (.int .i64 (k i).x) ∧ w.cell? ⟨b, 0 + i * 4 + 2, none⟩ = some (.int .i64 (k i).y) ∧ w.cell? ⟨b, 0 + i * 4 + 3, none⟩ = some (.int .i64 (k i).z)) :
    TV.At ⟨some ⟨b, 0, none⟩, 2, 2, k, 0⟩ w := ⟨fun _ => ⟨b, 0, rfl, lt_of (h 0 (by omega)).1, h⟩, by show 2 ≤ 9223372036854775807; omega⟩
theorem station_any (w : World) : Calls Try.prog 32 #[] w fun e w' => ∃ b, e = .returned (.agg #[.slice (some ⟨b, 0, none⟩) 2 2, .int .i64 0]) ∧ TV.At ⟨some ⟨b, 0, none⟩, 2, 2, kS, 0⟩ w' ∧ Below w.heap.size w w' := by
  go_enter Try.func32, Try.ntmps32
  go_wp2_with fail
  refine bodyPost_ret (v := .agg #[.slice (some ⟨w.heap.size + 1, 0, none⟩) 2 2, .int .i64 0]) (by simp [results, Try.results32, go_sem]) rfl ?_
  refine ⟨_, rfl, track2 (fun i hi => ?_), by (repeat (first | with_reducible exact Below.refl _ _ | with_reducible assumption | with_reducible refine Below.alloc ?_ (by first | (simp; done) | (simp; omega) | omega) _ | with_reducible refine Below.setCell ?_ (by first | (simp; done) | (simp; omega) | omega) _ | with_reducible refine Below.drew ?_ | with_reducible refine below_drewN ?_ _))⟩
  match i, hi with
  | 0, _ => refine ⟨?_, ?_, ?_, ?_⟩ <;> simp [go_sem, kS]
  | 1, _ => refine ⟨?_, ?_, ?_, ?_⟩ <;> simp [go_sem, kS]
theorem probe_any (w : World) : Calls Try.prog 33 #[] w fun e w' => ∃ b, e = .returned (.agg #[.slice (some ⟨b, 0, none⟩) 2 2, .int .i64 0]) ∧ TV.At ⟨some ⟨b, 0, none⟩, 2, 2, kP, 0⟩ w' ∧ Below w.heap.size w w' := by
  go_enter Try.func33, Try.ntmps33
  go_wp2_with fail
  refine bodyPost_ret (v := .agg #[.slice (some ⟨w.heap.size + 1, 0, none⟩) 2 2, .int .i64 0]) (by simp [results, Try.results33, go_sem]) rfl ?_
  refine ⟨_, rfl, track2 (fun i hi => ?_), by (repeat (first | with_reducible exact Below.refl _ _ | with_reducible assumption | with_reducible refine Below.alloc ?_ (by first | (simp; done) | (simp; omega) | omega) _ | with_reducible refine Below.setCell ?_ (by first | (simp; done) | (simp; omega) | omega) _ | with_reducible refine Below.drew ?_ | with_reducible refine below_drewN ?_ _))⟩
  match i, hi with
  | 0, _ => refine ⟨?_, ?_, ?_, ?_⟩ <;> simp [go_sem, kP]
  | 1, _ => refine ⟨?_, ?_, ?_, ?_⟩ <;> simp [go_sem, kP]
theorem drive_any (w : World) : Calls Try.prog 34 #[] w fun e w' => e = .returned (.agg #[.int .i64 100, .int .i64 (-150), .int .i64 150, .int .i64 90, .int .i64 35]) ∧ Below w.heap.size w w' := by
  go_enter Try.func34, Try.ntmps34
  go_wp2_with fail
  refine bodyPost_ret (v := .agg #[.int .i64 100, .int .i64 (-150), .int .i64 150, .int .i64 90, .int .i64 35]) (by simp [results, Try.results34, go_sem]) rfl ?_
  exact ⟨rfl, by (repeat (first | with_reducible exact Below.refl _ _ | with_reducible assumption | with_reducible refine Below.alloc ?_ (by first | (simp; done) | (simp; omega) | omega) _ | with_reducible refine Below.setCell ?_ (by first | (simp; done) | (simp; omega) | omega) _ | with_reducible refine Below.drew ?_ | with_reducible refine below_drewN ?_ _))⟩
theorem ints_any (A B : Option Addr) (n c m c' : Nat) (xs ys : Nat → Int) (w : World) (hn : n ≤ 1000000) (hA : IA w A n xs) (hB : IA w B m ys) :
    Calls Try.prog 25 #[.slice A n c, .slice B m c'] w fun e w' => e = .returned (.bool (n == m && (List.range n).all fun i => xs i == ys i)) ∧ Below w.heap.size w w' := by
  by_cases hnm : n = m
  · subst hnm
    have HA := Lib.hid hA
    have HB := Lib.hid hB
    clear hA hB
    go_enter Try.func25, Try.ntmps25
    go_wp2_with fail
    go_loopw [5] (fun i wr => ∃ k : Nat, k ≤ n ∧ i = .int .i64 k ∧ Hid (∀ j, j < k → xs j = ys j) ∧ Below w.heap.size w wr) (fun i _ => n - (intOf i).toNat)
    case atStart => exact ⟨0, Nat.zero_le _, rfl, fun j hj => absurd hj (Nat.not_lt_zero _), by (repeat (first | with_reducible exact Below.refl _ _ | with_reducible assumption | with_reducible refine Below.alloc ?_ (by first | (simp; done) | (simp; omega) | omega) _ | with_reducible refine Below.setCell ?_ (by first | (simp; done) | (simp; omega) | omega) _ | with_reducible refine Below.drew ?_ | with_reducible refine below_drewN ?_ _))⟩
    case round =>
      obtain ⟨k, hk, rfl, H, hbel⟩ := hrel
      by_cases hlt : k < n
      · obtain ⟨b1, o1, rfl, hc1⟩ := HA.out (by omega)
        obtain ⟨b2, o2, rfl, hc2⟩ := HB.out (by omega)
        have q1 := keep hbel (hc1 k hlt)
        have q2 := keep hbel (hc2 k hlt)
        have hws := hbel.size
        have p1 : (0 : Int) ≤ (k : Int) := by omega
        have p2 : (k : Int) < (n : Int) := by omega
        have HL := Lib.hid hlt
        clear hc1 hc2
        by_cases he : xs k = ys k
        · have g1 : (xs k != ys k) = false := by simp [he]
          have HE := Lib.hid he
          clear he
          go_wp2_with fail
          go_region_held3 (fun w' => w'.cell? ⟨b1, o1 + k, none⟩ = some (.int .i64 (xs k)) ∧ w'.cell? ⟨b2, o2 + k, none⟩ = some (.int .i64 (ys k))) (simp [go_sem, *]) (first | fail)
          all_goals
            go_wp2
            go_roundw
            case rel => exact ⟨k + 1, by omega, by go_num, fun j hj => (by
              rcases Nat.lt_or_eq_of_le (Nat.le_of_lt_succ hj) with h | h
              · exact H.out j h
              · rw [h]; exact HE.out), by (repeat (first | with_reducible exact Below.refl _ _ | with_reducible assumption | with_reducible refine Below.alloc ?_ (by first | (simp; done) | (simp; omega) | omega) _ | with_reducible refine Below.setCell ?_ (by first | (simp; done) | (simp; omega) | omega) _ | with_reducible refine Below.drew ?_ | with_reducible refine below_drewN ?_ _))⟩
            case measure => simp [intOf]; omega
        · have g1 : (xs k != ys k) = true := by simp [he]
          have HE := Lib.hid he
          clear he
          go_wp2_with fail
          go_region_held3 (fun w' => w'.cell? ⟨b1, o1 + k, none⟩ = some (.int .i64 (xs k)) ∧ w'.cell? ⟨b2, o2 + k, none⟩ = some (.int .i64 (ys k))) (simp [go_sem, *]) (first | fail)
          all_goals
            go_wp2
            go_ret
            refine ⟨ret_bool ?_, by (repeat (first | with_reducible exact Below.refl _ _ | with_reducible assumption | with_reducible refine Below.alloc ?_ (by first | (simp; done) | (simp; omega) | omega) _ | with_reducible refine Below.setCell ?_ (by first | (simp; done) | (simp; omega) | omega) _ | with_reducible refine Below.drew ?_ | with_reducible refine below_drewN ?_ _))⟩
            simp only [beq_self_eq_true, Bool.true_and]
            refine (List.all_eq_false.2 ⟨k, List.mem_range.2 HL.out, ?_⟩).symm
            simpa using HE.out
      · obtain rfl : k = n := by omega
        go_wp2
        go_ret
        refine ⟨ret_bool ?_, hbel⟩
        simp only [beq_self_eq_true, Bool.true_and]
        exact (List.all_eq_true.2 fun j hj => by simpa using H.out j (List.mem_range.1 hj)).symm
  · have g0 : (((n : Int) != (m : Int)) = true) := by simp; omega
    rw [show (n == m) = false by simpa using hnm]
    go_enter Try.func25, Try.ntmps25
    go_wp2_with fail
    go_ret
    exact ⟨rfl, by (repeat (first | with_reducible exact Below.refl _ _ | with_reducible assumption | with_reducible refine Below.alloc ?_ (by first | (simp; done) | (simp; omega) | omega) _ | with_reducible refine Below.setCell ?_ (by first | (simp; done) | (simp; omega) | omega) _ | with_reducible refine Below.drew ?_ | with_reducible refine below_drewN ?_ _))⟩
theorem ex1 (w : World) (b1 b2 : Nat) (h1 : TV.At ⟨some ⟨b1, 0, none⟩, 2, 2, kS, 0⟩ w) (h2 : TV.At ⟨some ⟨b2, 0, none⟩, 2, 2, kP, 0⟩ w) :
    Calls Try.prog 15 #[.agg #[.slice (some ⟨b1, 0, none⟩) 2 2, .int .i64 0], .agg #[.slice (some ⟨b2, 0, none⟩) 2 2, .int .i64 0], .int .i64 500] w fun e w' => e = .returned (.tuple #[.agg #[.int .i64 750, .int .i64 750], .int .i64 0]) ∧ Below w.heap.size w w' :=
  (distanceAt_x _ _ 2 2 2 2 kS kP 0 0 500 w h1 h2).mono (by
    rintro e w' ⟨hb, hh⟩
    rw [if_pos (ex_err 500 (.inl rfl) ⟨rfl, rfl, rfl⟩ ⟨rfl, rfl, rfl⟩)] at hh
    obtain ⟨A', B', r1, r2, hA, hB, rfl, h1, h2⟩ := hh
    obtain ⟨rfl, rfl⟩ := ex_dist hA hB h1 h2
    exact ⟨rfl, hb⟩)
theorem ex2 (w : World) (b1 b2 : Nat) (h1 : TV.At ⟨some ⟨b1, 0, none⟩, 2, 2, kS, 0⟩ w) (h2 : TV.At ⟨some ⟨b2, 0, none⟩, 2, 2, kP, 0⟩ w) :
    Calls Try.prog 30 #[.agg #[.slice (some ⟨b1, 0, none⟩) 2 2, .int .i64 0], .agg #[.slice (some ⟨b2, 0, none⟩) 2 2, .int .i64 0], .int .i64 0] w fun e w' => e = .returned (.tuple #[.agg #[.int .i64 999, .int .i64 1000], .int .i64 0]) ∧ Below w.heap.size w w' :=
  (receivedAt_x _ _ 2 2 2 2 kS kP 0 0 0 w h1 h2).mono (by
    rintro e w' ⟨hb, hh⟩
    rw [if_pos (ex_err 0 (.inr rfl) ⟨rfl, rfl, rfl⟩ ⟨rfl, rfl, rfl⟩)] at hh
    obtain ⟨A', B', arr, hA, hB, h1, hh⟩ := hh
    have e1 : (kP (2 - 1)).t = 1000 := rfl
    simp only [e1] at h1 hh
    have hR : arr = 1000 := RL_t h1 (by omega) (by omega) (fun e h h' => by rw [(same_arr (A' := tS) (B' := tP) hA hB 0 e).1]; exact ex_at (f := arrB tS tP 0) ex_arr e h h')
    rcases hh with ⟨h3, _⟩ | ⟨_, pos, h2, rfl⟩
    · omega
    · obtain ⟨rfl, rfl⟩ := ex_recv hA hB h1 h2
      exact ⟨rfl, hb⟩)
def y3 : Nat → Int := fun i => if i = 0 then 110 else if i = 1 then 130 else 95
theorem ia3 {w : World} {b : Nat} {a0 a1 a2 : Int} {xs : Nat → Int} (h0 : w.cell? ⟨b, 0 + 0, none⟩ = some (.int .i64 a0)) (h1 : w.cell? ⟨b, 0 + 1, none⟩ = some (.int .i64 a1)) (h2 : w.cell? ⟨b, 0 + 2, none⟩ = some (.int .i64 a2)) (e0 : xs 0 = a0) (e1 : xs 1 = a1) (e2 : xs 2 = a2) : IA w (some ⟨b, 0, none⟩) 3 xs := fun _ => ⟨b, 0, rfl, fun i hi => by
  match i, hi with
  | 0, _ => rw [e0]; exact h0
  | 1, _ => rw [e1]; exact h1
  | 2, _ => rw [e2]; exact h2⟩
theorem ex3 (w : World) (A : Option Addr) (hA : IA w A 3 x3) :
    Calls Try.prog 19 #[.agg #[.int .i64 100, .int .i64 (-150), .int .i64 150, .int .i64 90, .int .i64 35], .slice A 3 3] w fun e w' => ∃ A2 c2, e = .returned (.tuple #[.slice A2 3 c2, .int .i64 75, .int .i64 0]) ∧ IA w' A2 3 y3 ∧ Below w.heap.size w w' :=
  (pointing_any 100 (-150) 150 90 35 A 3 3 x3 w (by omega) hA).mono (by
    rintro e w' ⟨hb, _, h⟩
    rcases h ex_pt with ⟨_, _, v, rfl, hv⟩ | ⟨⟨i, hi, hn⟩, _⟩
    · rw [ex_pos] at hv
      rw [ex_trv]
      obtain ⟨hv1, hv2⟩ := own_parts hv
      have hv3 := (hv2 (by omega)).1
      rw [hv3] at hv1
      rw [hv1] at hv ⊢
      have hc := fun i u h => hv.cells (g := sG v) rfl i u h
      refine ⟨_, _, rfl, ia3 (a0 := 110) (a1 := 130) (a2 := 95) ?_ ?_ ?_ rfl rfl rfl, hb⟩
      · simpa [Addr.add] using hc 0 _ rfl
      · simpa [Addr.add] using hc 1 _ rfl
      · simpa [Addr.add] using hc 2 _ rfl
    · exact absurd (ex_ok i hi) hn)
theorem thenB {w X Y : World} (h : Below w.heap.size w X) (h2 : Below X.heap.size X Y) : Below w.heap.size w Y := h.trans (h2.mono h.size)
theorem keepA {w : World} {a : Addr} {v : Value} (o : Obj) (h : w.cell? a = some v) : (w.alloc o).cell? a = some v := (World.cell?_alloc_some w a o (by rw [h]; rfl)).trans h
theorem two_new {w : World} {a b : Value} {T : TypeId} : (w.alloc (.cells #[a, b] T)).cell? ⟨w.heap.size, 0, none⟩ = some a ∧ (w.alloc (.cells #[a, b] T)).cell? ⟨w.heap.size, 1, none⟩ = some b := ⟨by simp [go_sem], by simp [go_sem]⟩
set_option maxRecDepth 100000 in
set_option maxHeartbeats 2000000 in
theorem awake_any (w : World) : Calls Try.prog 6 #[] w fun e w' => e = .returned (.bool true) ∧ Below w.heap.size w w' := by
  go_enter Try.func6, Try.ntmps6
  go_wp2_with (first
    | (go_at_call 32; (with_reducible refine Calls.mono (station_any _) ?_); rintro e w1 ⟨b1, rfl, t1, hb1⟩; have B := thenB (show Below w.heap.size w _ by (repeat (first | with_reducible exact Below.refl _ _ | with_reducible assumption | with_reducible refine Below.alloc ?_ (by first | (simp; done) | (simp; omega) | omega) _ | with_reducible refine Below.setCell ?_ (by first | (simp; done) | (simp; omega) | omega) _ | with_reducible refine Below.drew ?_ | with_reducible refine below_drewN ?_ _))) hb1; have Bz := B.size)
    | (go_at_call 33; (with_reducible refine Calls.mono (probe_any _) ?_); rintro e w2 ⟨b2, rfl, t2, hb2⟩; have t3 := t1.below hb2; have B := thenB (show Below w.heap.size w _ by (repeat (first | with_reducible exact Below.refl _ _ | with_reducible assumption | with_reducible refine Below.alloc ?_ (by first | (simp; done) | (simp; omega) | omega) _ | with_reducible refine Below.setCell ?_ (by first | (simp; done) | (simp; omega) | omega) _ | with_reducible refine Below.drew ?_ | with_reducible refine below_drewN ?_ _))) hb2; have Bz := B.size)
    | (go_at_call 15; (with_reducible refine Calls.mono (ex1 _ _ _ t3 t2) ?_); rintro e w3 ⟨rfl, hb3⟩; have B := thenB (show Below w.heap.size w _ by (repeat (first | with_reducible exact Below.refl _ _ | with_reducible assumption | with_reducible refine Below.alloc ?_ (by first | (simp; done) | (simp; omega) | omega) _ | with_reducible refine Below.setCell ?_ (by first | (simp; done) | (simp; omega) | omega) _ | with_reducible refine Below.drew ?_ | with_reducible refine below_drewN ?_ _))) hb3; have Bz := B.size)
    | (go_at_call 30; (with_reducible refine Calls.mono (ex2 _ _ _ t3 t2) ?_); rintro e w4 ⟨rfl, hb4⟩; have B := thenB (show Below w.heap.size w _ by (repeat (first | with_reducible exact Below.refl _ _ | with_reducible assumption | with_reducible refine Below.alloc ?_ (by first | (simp; done) | (simp; omega) | omega) _ | with_reducible refine Below.setCell ?_ (by first | (simp; done) | (simp; omega) | omega) _ | with_reducible refine Below.drew ?_ | with_reducible refine below_drewN ?_ _))) hb4; have Bz := B.size)
    | (go_at_call 34; (with_reducible refine Calls.mono (drive_any _) ?_); rintro e w5 ⟨rfl, hb5⟩; have B := thenB (show Below w.heap.size w _ by (repeat (first | with_reducible exact Below.refl _ _ | with_reducible assumption | with_reducible refine Below.alloc ?_ (by first | (simp; done) | (simp; omega) | omega) _ | with_reducible refine Below.setCell ?_ (by first | (simp; done) | (simp; omega) | omega) _ | with_reducible refine Below.drew ?_ | with_reducible refine below_drewN ?_ _))) hb5; have Bz := B.size)
    | (go_at_call 19; go_loud (with_reducible refine Calls.mono (ex3 _ _ (ia3 (a0 := 10) (a1 := 30) (a2 := 95) (by simp [go_sem]) (by simp [go_sem]) (by simp [go_sem]) rfl rfl rfl)) ?_; rintro e w6 ⟨A6, c6, rfl, t6, hb6⟩; have B := thenB (show Below w.heap.size w _ by (repeat (first | with_reducible exact Below.refl _ _ | with_reducible assumption | with_reducible refine Below.alloc ?_ (by first | (simp; done) | (simp; omega) | omega) _ | with_reducible refine Below.setCell ?_ (by first | (simp; done) | (simp; omega) | omega) _ | with_reducible refine Below.drew ?_ | with_reducible refine below_drewN ?_ _))) hb6; have Bz := B.size; have d0 := keep hb6 (keepA _ (keep hb5 (keepA _ (keep hb4 (keep hb2 (keep hb1 (two_new (w := w3)).1)))))); have d1 := keep hb6 (keepA _ (keep hb5 (keepA _ (keep hb4 (keep hb2 (keep hb1 (two_new (w := w3)).2)))))); have r0 := keep hb6 (keepA _ (keep hb5 (two_new (w := w4)).1)); have r1 := keep hb6 (keepA _ (keep hb5 (two_new (w := w4)).2))))
    | (go_at_call 25; go_loud (with_reducible refine Calls.mono (ints_any A6 _ 3 c6 3 3 y3 y3 _ (by omega) (t6.below (by (repeat (first | with_reducible exact Below.refl _ _ | with_reducible assumption | with_reducible refine Below.alloc ?_ (by first | (simp; done) | (simp; omega) | omega) _ | with_reducible refine Below.setCell ?_ (by first | (simp; done) | (simp; omega) | omega) _ | with_reducible refine Below.drew ?_ | with_reducible refine below_drewN ?_ _)))) (ia3 (a0 := 110) (a1 := 130) (a2 := 95) (by simp [go_sem]) (by simp [go_sem]) (by simp [go_sem]) rfl rfl rfl)) ?_; rintro e w7 ⟨rfl, hb7⟩; have B := thenB (show Below w.heap.size w _ by (repeat (first | with_reducible exact Below.refl _ _ | with_reducible assumption | with_reducible refine Below.alloc ?_ (by first | (simp; done) | (simp; omega) | omega) _ | with_reducible refine Below.setCell ?_ (by first | (simp; done) | (simp; omega) | omega) _ | with_reducible refine Below.drew ?_ | with_reducible refine below_drewN ?_ _))) hb7; have Bz := B.size)))
  go_ret
  exact ⟨rfl, B⟩
end Go.Proofs.Ytmhcmiajikffpaa
namespace Go.Proofs.Ytmhcmiajikffpaa
open Go.RowKit Go.Shelf Go.Sort
theorem nsum3 (g : Int → Int → Int) (x y z d : Int) : nsum g x y z d 3 = g x d * g x d + g y d * g y d + g z d * g z d := by simp [nsum]
theorem sq_le {a b : Int} (h0 : 0 ≤ a) (h : a ≤ b) : a * a ≤ b * b := Int.mul_le_mul h h h0 (by omega)
theorem sq_lt_imp {a b : Int} (h0 : 0 ≤ b) (h : a * a < b * b) : a < b := by
  rcases Int.lt_or_le a b with q | q
  · exact q
  · have := sq_le h0 q; omega
theorem le_of_sq {a b : Int} (h0 : 0 ≤ b) (h : a * a ≤ b * b) : a ≤ b := by
  rcases Int.lt_or_le b a with q | q
  · have h1 : b + 1 ≤ a := q
    have h2 := sq_le (show 0 ≤ b + 1 by omega) h1
    have h3 : (b + 1) * (b + 1) = b * b + 2 * b + 1 := by rw [Int.add_mul, Int.mul_add]; omega
    omega
  · exact q
theorem nr_nn (x d : Int) : 0 ≤ nr x d := by unfold nr; omega
theorem fr_nn {x d : Int} (h : 0 ≤ d) : 0 ≤ fr x d := by unfold fr siz; omega
theorem nr_siz (x : Int) {d : Int} (h : 0 ≤ d) : nr x d * nr x d ≤ x * x := by
  have h1 : nr x d ≤ siz x := by unfold nr siz; omega
  have h2 : siz x * siz x = x * x := by unfold siz; exact Int.natAbs_mul_self' x
  rw [← h2]
  exact sq_le (nr_nn x d) h1
theorem siz_fr (x : Int) {d : Int} (h : 0 ≤ d) : x * x ≤ fr x d * fr x d := by
  have h2 : siz x * siz x = x * x := by unfold siz; exact Int.natAbs_mul_self' x
  rw [← h2]
  exact sq_le (by unfold siz; omega) (by unfold fr; omega)
theorem nsum_nr_le {x y z d : Int} (h : 0 ≤ d) : nsum nr x y z d 3 ≤ x * x + y * y + z * z := by
  rw [nsum3]
  have := nr_siz x h
  have := nr_siz y h
  have := nr_siz z h
  omega
theorem le_nsum_fr {x y z d : Int} (h : 0 ≤ d) : x * x + y * y + z * z ≤ nsum fr x y z d 3 := by
  rw [nsum3]
  have := siz_fr x h
  have := siz_fr y h
  have := siz_fr z h
  omega
theorem nsum_nr_nn (x y z d : Int) : 0 ≤ nsum nr x y z d 3 := by
  rw [nsum3]
  have := sq_nn (nr x d)
  have := sq_nn (nr y d)
  have := sq_nn (nr z d)
  omega
theorem nsum_nr_mono {x y z d d' : Int} (h : d ≤ d') : nsum nr x y z d' 3 ≤ nsum nr x y z d 3 := by
  have q : ∀ v, nr v d' * nr v d' ≤ nr v d * nr v d := fun v => sq_le (nr_nn v d') (by unfold nr; omega)
  rw [nsum3, nsum3]
  have := q x
  have := q y
  have := q z
  omega
theorem nsum_fr_mono {x y z d d' : Int} (h0 : 0 ≤ d) (h : d ≤ d') : nsum fr x y z d 3 ≤ nsum fr x y z d' 3 := by
  have q : ∀ v, fr v d * fr v d ≤ fr v d' * fr v d' := fun v => sq_le (fr_nn h0) (by unfold fr; omega)
  rw [nsum3, nsum3]
  have := q x
  have := q y
  have := q z
  omega
/-- The squares of two lengths bound the square of the length of the sum. -/
theorem cauchy (a b c x y z s t : Int) (hs : 0 ≤ s) (ht : 0 ≤ t) (h1 : a * a + b * b + c * c ≤ s * s) (h2 : x * x + y * y + z * z ≤ t * t) : a * x + b * y + c * z ≤ s * t := by
  have e : (a * a + b * b + c * c) * (x * x + y * y + z * z) = (a * x + b * y + c * z) * (a * x + b * y + c * z) + (a * y - b * x) * (a * y - b * x) + (a * z - c * x) * (a * z - c * x) + (b * z - c * y) * (b * z - c * y) := by
    simp only [Int.mul_add, Int.mul_sub, Int.mul_left_comm, Int.mul_comm]
    omega
  have n1 := sq_nn (a * y - b * x)
  have n2 := sq_nn (a * z - c * x)
  have n3 := sq_nn (b * z - c * y)
  have p1 : 0 ≤ x * x + y * y + z * z := by have := sq_nn x; have := sq_nn y; have := sq_nn z; omega
  have m1 : (a * a + b * b + c * c) * (x * x + y * y + z * z) ≤ (s * s) * (t * t) := Int.mul_le_mul h1 h2 p1 (sq_nn s)
  have m2 : (s * s) * (t * t) = (s * t) * (s * t) := by simp only [Int.mul_left_comm, Int.mul_comm]
  exact le_of_sq (Int.mul_nonneg hs ht) (by omega)
theorem triangle (a b c x y z s t : Int) (hs : 0 ≤ s) (ht : 0 ≤ t) (h1 : a * a + b * b + c * c ≤ s * s) (h2 : x * x + y * y + z * z ≤ t * t) : (a + x) * (a + x) + (b + y) * (b + y) + (c + z) * (c + z) ≤ (s + t) * (s + t) := by
  have h3 := cauchy a b c x y z s t hs ht h1 h2
  have e1 : (a + x) * (a + x) + (b + y) * (b + y) + (c + z) * (c + z) = (a * a + b * b + c * c) + (x * x + y * y + z * z) + 2 * (a * x + b * y + c * z) := by
    simp only [Int.mul_add, Int.mul_comm]
    omega
  have e2 : (s + t) * (s + t) = s * s + t * t + 2 * (s * t) := by
    simp only [Int.mul_add, Int.mul_comm]
    omega
  omega
theorem mul_le_cancel {a b c : Int} (hc : 0 < c) (h : a * c ≤ b * c) : a ≤ b := Int.le_of_mul_le_mul_right h hc
/-- Three places: the nearest distance of two is at most the sum of the farthest ones by way of the third. -/
theorem tri_places (f g h : Plc) (d1 d2 d3 lo h1 h2 : Int) (fn : 1 ≤ f.n) (gn : 1 ≤ g.n) (hn : 1 ≤ h.n) (e1 : 0 ≤ d1) (e2 : 0 ≤ d2) (e3 : 0 ≤ d3) (_ : 0 ≤ lo) (p1 : 0 ≤ h1) (p2 : 0 ≤ h2)
    (q1 : lo * vn f g * (lo * vn f g) ≤ nsum nr (vx f g) (vy f g) (vz f g) d1 3) (q2 : nsum fr (vx f h) (vy f h) (vz f h) d2 3 ≤ h1 * vn f h * (h1 * vn f h)) (q3 : nsum fr (vx h g) (vy h g) (vz h g) d3 3 ≤ h2 * vn h g * (h2 * vn h g)) : lo ≤ h1 + h2 := by
  have b1 : lo * vn f g * (lo * vn f g) ≤ vx f g * vx f g + vy f g * vy f g + vz f g * vz f g := Int.le_trans q1 (nsum_nr_le e1)
  have b2 : vx f h * vx f h + vy f h * vy f h + vz f h * vz f h ≤ h1 * vn f h * (h1 * vn f h) := Int.le_trans (le_nsum_fr e2) q2
  have b3 : vx h g * vx h g + vy h g * vy h g + vz h g * vz h g ≤ h2 * vn h g * (h2 * vn h g) := Int.le_trans (le_nsum_fr e3) q3
  have sc : ∀ (u v w s k : Int), 0 ≤ k → u * u + v * v + w * w ≤ s * s → (u * k) * (u * k) + (v * k) * (v * k) + (w * k) * (w * k) ≤ (s * k) * (s * k) := by
    intro u v w s k hk h
    have := Int.mul_le_mul_of_nonneg_right h (sq_nn k)
    have e : ∀ r : Int, (r * k) * (r * k) = r * r * (k * k) := fun r => by simp only [Int.mul_left_comm, Int.mul_comm]
    rw [e, e, e, e, ← Int.add_mul, ← Int.add_mul]
    exact this
  have c2 := sc _ _ _ _ g.n (by omega) b2
  have c3 := sc _ _ _ _ f.n (by omega) b3
  have vnn : ∀ a b : Plc, 1 ≤ a.n → 1 ≤ b.n → 0 ≤ vn a b := fun a b ha hb => Int.mul_nonneg (by omega) (by omega)
  have t := triangle _ _ _ _ _ _ _ _ (Int.mul_nonneg (Int.mul_nonneg p1 (vnn f h fn hn)) (by omega)) (Int.mul_nonneg (Int.mul_nonneg p2 (vnn h g hn gn)) (by omega)) c2 c3
  have ex : ∀ a b c n1 n2 n3 : Int, (c * n1 - a * n3) * n2 + (b * n3 - c * n2) * n1 = (b * n1 - a * n2) * n3 := by
    intro a b c n1 n2 n3
    simp only [Int.mul_sub, Int.mul_left_comm, Int.mul_comm]
    omega
  have x1 : vx f h * g.n + vx h g * f.n = vx f g * h.n := ex f.x g.x h.x f.n g.n h.n
  have x2 : vy f h * g.n + vy h g * f.n = vy f g * h.n := ex f.y g.y h.y f.n g.n h.n
  have x3 : vz f h * g.n + vz h g * f.n = vz f g * h.n := ex f.z g.z h.z f.n g.n h.n
  rw [x1, x2, x3] at t
  have en : h1 * vn f h * g.n + h2 * vn h g * f.n = (h1 + h2) * (f.n * g.n * h.n) := by
    unfold vn
    rw [Int.add_mul]
    congr 1 <;> simp only [Int.mul_left_comm, Int.mul_comm]
  rw [en] at t
  have b1' : (lo * (f.n * g.n * h.n)) * (lo * (f.n * g.n * h.n)) ≤ (vx f g * h.n) * (vx f g * h.n) + (vy f g * h.n) * (vy f g * h.n) + (vz f g * h.n) * (vz f g * h.n) := by
    have := Int.mul_le_mul_of_nonneg_right b1 (sq_nn h.n)
    have e : ∀ r : Int, (r * h.n) * (r * h.n) = r * r * (h.n * h.n) := fun r => by simp only [Int.mul_left_comm, Int.mul_comm]
    have e2 : (lo * (f.n * g.n * h.n)) * (lo * (f.n * g.n * h.n)) = lo * vn f g * (lo * vn f g) * (h.n * h.n) := by unfold vn; simp only [Int.mul_left_comm, Int.mul_comm]
    rw [e, e, e, e2, ← Int.add_mul, ← Int.add_mul]
    exact this
  have pos : 0 < f.n * g.n * h.n := Int.mul_pos (Int.mul_pos (by omega) (by omega)) (by omega)
  have fin := le_of_sq (Int.mul_nonneg (by omega) (by omega)) (Int.le_trans b1' t)
  exact mul_le_cancel pos fin

theorem RL_same {p : Int → Bool} {lo hi r r' : Int} (hm : ∀ x y, lo ≤ x → x ≤ y → p x = true → p y = true) (h : RL p lo hi r) (h' : RL p lo hi r') : r = r' := by
  obtain ⟨a1, a2, a3, a4⟩ := h
  obtain ⟨b1, b2, b3, b4⟩ := h'
  have key : ∀ x y, lo ≤ x → x < y → y ≤ hi + 1 → (y = lo ∨ p (y - 1) = false) → (x = hi + 1 ∨ p x = true) → False := by
    intro x y q0 q1 q2 q3 q4
    rcases q3 with z | z
    · omega
    · rcases q4 with u | u
      · omega
      · rw [hm x (y - 1) q0 (by omega) u] at z; cases z
  rcases Int.lt_or_le r r' with q | q
  · exact (key r r' a1 q b2 b3 a4).elim
  · rcases Int.lt_or_le r' r with q' | q'
    · exact (key r' r b1 q' a2 a3 b4).elim
    · omega
def pN (N v : Int) (e : Int) : Bool := decide (N < e * v * (e * v))
def pF (F v : Int) (e : Int) : Bool := !decide (e * v * (e * v) < F)
theorem ev_mono {v x y : Int} (hv : 0 ≤ v) (h0 : 0 ≤ x) (h : x ≤ y) : x * v * (x * v) ≤ y * v * (y * v) := sq_le (Int.mul_nonneg h0 hv) (Int.mul_le_mul_of_nonneg_right h hv)
theorem pN_mono {N v : Int} (hv : 0 ≤ v) : ∀ x y, (0 : Int) ≤ x → x ≤ y → pN N v x = true → pN N v y = true := by
  intro x y h0 h hx
  have := ev_mono hv h0 h
  simp only [pN, decide_eq_true_eq] at hx ⊢
  omega
theorem pF_mono {F v : Int} (hv : 0 ≤ v) : ∀ x y, (0 : Int) ≤ x → x ≤ y → pF F v x = true → pF F v y = true := by
  intro x y h0 h hx
  have := ev_mono hv h0 h
  simp only [pF, Bool.not_eq_true', decide_eq_false_iff_not] at hx ⊢
  omega
/-- What is known of the ends of a distance: lo and hi. -/
theorem lo_spec {N v r : Int} (hN : 0 ≤ N) (h : RL (pN N v) 0 6006000 r) : 1 ≤ r ∧ r ≤ 6006001 ∧ (r - 1) * v * ((r - 1) * v) ≤ N := by
  obtain ⟨a1, a2, a3, a4⟩ := h
  have h1 : 1 ≤ r := by
    rcases Int.lt_or_le r 1 with q | q
    · obtain rfl : r = 0 := by omega
      rcases a4 with z | z
      · omega
      · simp [pN] at z; omega
    · exact q
  refine ⟨h1, a2, ?_⟩
  rcases a3 with z | z
  · omega
  · simp only [pN, decide_eq_false_iff_not] at z; omega
theorem hi_spec {F v r : Int} (h : RL (pF F v) 0 6006000 r) : 0 ≤ r ∧ r ≤ 6006001 ∧ (r ≤ 6006000 → F ≤ r * v * (r * v)) ∧ (0 < r → (r - 1) * v * ((r - 1) * v) < F) := by
  obtain ⟨a1, a2, a3, a4⟩ := h
  refine ⟨a1, a2, fun q => ?_, fun q => ?_⟩
  · rcases a4 with z | z
    · omega
    · simp only [pF, Bool.not_eq_true', decide_eq_false_iff_not] at z; omega
  · rcases a3 with z | z
    · omega
    · simp only [pF, Bool.not_eq_false', decide_eq_true_eq] at z; exact z
theorem lo_le_hi {N F v r1 r2 : Int} (hv : 1 ≤ v) (hN : 0 ≤ N) (hNF : N ≤ F) (h1 : RL (pN N v) 0 6006000 r1) (h2 : RL (pF F v) 0 6006000 r2) : r1 - 1 ≤ r2 := by
  obtain ⟨a1, a2, a3⟩ := lo_spec hN h1
  obtain ⟨b1, b2, b3, _⟩ := hi_spec h2
  rcases Int.lt_or_le 6006000 r2 with q | q
  · omega
  · have := le_of_sq (Int.mul_nonneg b1 (by omega)) (Int.le_trans a3 (Int.le_trans hNF (b3 q)))
    exact mul_le_cancel (by omega) this
theorem lo_wider {N N' v r r' : Int} (hv : 1 ≤ v) (_ : 0 ≤ N) (hN' : 0 ≤ N') (hle : N' ≤ N) (h : RL (pN N v) 0 6006000 r) (h' : RL (pN N' v) 0 6006000 r') : r' ≤ r := by
  obtain ⟨a1, a2, a3, a4⟩ := h
  obtain ⟨b1, b2, b3⟩ := lo_spec hN' h'
  rcases a4 with z | z
  · omega
  · simp only [pN, decide_eq_true_eq] at z
    have : (r' - 1) * v * ((r' - 1) * v) < r * v * (r * v) := by omega
    have := sq_lt_imp (Int.mul_nonneg a1 (by omega)) this
    have := Int.lt_of_mul_lt_mul_right this (show (0 : Int) ≤ v by omega)
    omega
theorem hi_wider {F F' v r r' : Int} (hv : 1 ≤ v) (hle : F ≤ F') (h : RL (pF F v) 0 6006000 r) (h' : RL (pF F' v) 0 6006000 r') : r ≤ r' := by
  obtain ⟨a1, a2, a3, a4⟩ := hi_spec h
  obtain ⟨b1, b2, b3, b4⟩ := hi_spec h'
  rcases Int.lt_or_le 6006000 r' with q | q
  · omega
  · have h1 := b3 q
    rcases Int.lt_or_le 0 r with z | z
    · have h2 := a4 z
      have : (r - 1) * v * ((r - 1) * v) < r' * v * (r' * v) := by omega
      have := sq_lt_imp (Int.mul_nonneg b1 (by omega)) this
      have := Int.lt_of_mul_lt_mul_right this (show (0 : Int) ≤ v by omega)
      omega
    · omega
theorem nr_neg (x d : Int) : nr (-x) d = nr x d := by unfold nr siz; omega
theorem fr_neg (x d : Int) : fr (-x) d = fr x d := by unfold fr siz; omega
theorem vx_neg (f t : Plc) : vx t f = -vx f t := by unfold vx; omega
theorem vy_neg (f t : Plc) : vy t f = -vy f t := by unfold vy; omega
theorem vz_neg (f t : Plc) : vz t f = -vz f t := by unfold vz; omega
theorem vn_comm (f t : Plc) : vn t f = vn f t := Int.mul_comm _ _
theorem vd_comm (da db : Int) (f t : Plc) : vd db da t f = vd da db f t := by unfold vd; rw [Int.add_comm, Int.mul_comm t.n f.n]
theorem sqN_comm (A B : Trk) (s : Int) : sqN B A s s = sqN A B s s := by unfold sqN; rw [nsum3, nsum3, vd_comm, vx_neg, vy_neg, vz_neg, nr_neg, nr_neg, nr_neg]
theorem sqF_comm (A B : Trk) (s : Int) : sqF B A s s = sqF A B s s := by unfold sqF; rw [nsum3, nsum3, vd_comm, vx_neg, vy_neg, vz_neg, fr_neg, fr_neg, fr_neg]
theorem own_v (f : Plc) : vx f f = 0 ∧ vy f f = 0 ∧ vz f f = 0 := ⟨by unfold vx; omega, by unfold vy; omega, by unfold vz; omega⟩
theorem own_lo {v d r : Int} (hv : 1 ≤ v) (hd : 0 ≤ d) (h : RL (pN (nsum nr 0 0 0 d 3) v) 0 6006000 r) : r = 1 := by
  have e : nsum nr 0 0 0 d 3 = 0 := by
    rw [nsum3]
    have : nr 0 d = 0 := by unfold nr siz; omega
    rw [this]; rfl
  rw [e] at h
  refine RL_t h (by omega) (by omega) (fun x q1 q2 => ?_)
  simp only [pN, decide_eq_true_eq]
  constructor
  · intro hx
    rcases Int.lt_or_le x 1 with z | z
    · obtain rfl : x = 0 := by omega
      simp at hx
    · exact z
  · intro hx
    have := Int.mul_pos (show 0 < x by omega) (show 0 < v by omega)
    exact Int.mul_pos this this
theorem own_hi {v da r : Int} (hv : 1 ≤ v) (h0 : 0 ≤ da) (h1 : da ≤ 1000) (h : RL (pF (nsum fr 0 0 0 ((da + da) * v) 3) v) 0 6006000 r) : 2 * da ≤ r ∧ r ≤ 4 * da := by
  have e : nsum fr 0 0 0 ((da + da) * v) 3 = 3 * (2 * da * v * (2 * da * v)) := by
    rw [nsum3]
    have : fr 0 ((da + da) * v) = 2 * da * v := by
      have : da + da = 2 * da := by omega
      rw [this]; unfold fr siz; omega
    rw [this]; omega
  rw [e] at h
  obtain ⟨b1, b2, b3, b4⟩ := hi_spec h
  have hs := sq_nn (2 * da * v)
  refine ⟨?_, ?_⟩
  · rcases Int.lt_or_le r (2 * da) with q | q
    · have h3 := b3 (by omega)
      have h4 := le_of_sq (Int.mul_nonneg b1 (by omega)) (show 2 * da * v * (2 * da * v) ≤ r * v * (r * v) by omega)
      have := mul_le_cancel (show (0 : Int) < v by omega) h4
      omega
    · exact q
  · rcases Int.lt_or_le (4 * da) r with q | q
    · have h4 := b4 (by omega)
      have h5 := ev_mono (v := v) (x := 4 * da) (y := r - 1) (by omega) (by omega) (by omega)
      have h6 : 4 * da * v * (4 * da * v) = 4 * (2 * da * v * (2 * da * v)) := by
        rw [show 4 * da * v = 2 * (2 * da * v) by rw [← Int.mul_assoc, ← Int.mul_assoc]; rfl]
        generalize 2 * da * v = z
        rw [Int.mul_assoc, Int.mul_left_comm z 2 z, ← Int.mul_assoc]; rfl
      omega
    · exact q
theorem RL_exists (p : Int → Bool) : ∀ n : Nat, ∃ r, RL p 0 (n : Int) r
  | 0 => by
    cases h : p 0
    · exact ⟨1, by omega, by omega, .inr h, .inl (by omega)⟩
    · exact ⟨0, by omega, by omega, .inl rfl, .inr h⟩
  | n + 1 => by
    obtain ⟨r, h1, h2, h3, h4⟩ := RL_exists p n
    rcases h4 with z | z
    · cases h : p ((n : Int) + 1)
      · exact ⟨n + 2, by omega, by omega, .inr (by rw [show (n : Int) + 2 - 1 = n + 1 by omega]; exact h), .inl (by omega)⟩
      · exact ⟨r, h1, by omega, h3, .inr (by rw [z]; exact h)⟩
    · exact ⟨r, h1, by omega, h3, .inr z⟩
end Go.Proofs.Ytmhcmiajikffpaa
