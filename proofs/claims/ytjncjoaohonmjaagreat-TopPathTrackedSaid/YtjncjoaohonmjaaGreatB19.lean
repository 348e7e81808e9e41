/- Helpers: the numbers of the document's examples. -/
import Derived.Test.YtjncjoaohonmjaaGreatB13
import Derived.Test.YtjncjoaohonmjaaGreatB17
import Derived.Test.YtjncjoaohonmjaaGreatB18
import Derived.Test.YtjncjoaohonmjaaGreatB01
import Derived.Test.YtjncjoaohonmjaaGreatB08
import Derived.Test.YtjncjoaohonmjaaGreatB12
import Derived.Test.YtjncjoaohonmjaaGreatB10
import Derived.Test.YtjncjoaohonmjaaGreatB04
namespace Go.Proofs.YtjncjoaohonmjaaGreat
open Go.RowKit Go.Shelf Go.Sort
def kS : Nat → Knot := fun i => if i = 0 then ⟨0, 0, 0, 0⟩ else ⟨1000, 0, 0, 0⟩
def kP : Nat → Knot := fun i => if i = 0 then ⟨0, 300, 400, 0⟩ else ⟨1000, 600, 800, 0⟩
theorem sq_lt_sq {c x : Int} (hc : 0 ≤ c) (hx : 0 ≤ x) : c * c < x * x ↔ c < x := by
  constructor
  · intro h
    rcases Int.lt_or_le c x with h1 | h1
    · exact h1
    · have := Int.mul_le_mul h1 h1 hx hc
      omega
  · intro h
    have h1 := Int.mul_le_mul (show c + 1 ≤ x by omega) (show c + 1 ≤ x by omega) (by omega) hx
    rw [Int.add_mul, Int.mul_add, Int.mul_add] at h1
    omega
theorem RL_t {p : Int → Bool} {lo hi r m : Int} (h : RL p lo hi r) (h0 : lo ≤ m) (h1 : m ≤ hi + 1) (hp : ∀ e, lo ≤ e → e ≤ hi → (p e = true ↔ m ≤ e)) : r = m := by
  obtain ⟨a, b, c, d⟩ := h
  apply Int.le_antisymm
  · rcases c with c | c
    · omega
    · rcases Int.lt_or_le m r with h2 | h2
      · have := (hp (r - 1) (by omega) (by omega)).2 (by omega)
        rw [c] at this
        simp at this
      · exact h2
  · rcases d with d | d
    · omega
    · rcases Int.lt_or_le r m with h2 | h2
      · have := (hp r (by omega) (by omega)).1 d
        omega
      · exact h2
theorem ex_dist {A B : Trk} {r1 r2 : Int} (hA : A.k = kS ∧ A.n = 2 ∧ A.d = 0) (hB : B.k = kP ∧ B.n = 2 ∧ B.d = 0)
    (h1 : RL (fun e => decide (sqN A B 500 500 < e * vn (A.p 500) (B.p 500) * (e * vn (A.p 500) (B.p 500)))) 0 6006000 r1)
    (h2 : RL (fun e => !decide (e * vn (A.p 500) (B.p 500) * (e * vn (A.p 500) (B.p 500)) < sqF A B 500 500)) 0 6006000 r2) : r1 = 751 ∧ r2 = 750 := by
  have pa : A.p 500 = ⟨0, 0, 0, 1000⟩ := by unfold Trk.p; rw [hA.1, hA.2.1]; kernel_rfl
  have pb : B.p 500 = ⟨450000, 600000, 0, 1000⟩ := by unfold Trk.p; rw [hB.1, hB.2.1]; kernel_rfl
  have e1 : sqN A B 500 500 = 750000000 * 750000000 := by unfold sqN; rw [pa, pb, hA.2.2, hB.2.2]; kernel_rfl
  have e2 : sqF A B 500 500 = 750000000 * 750000000 := by unfold sqF; rw [pa, pb, hA.2.2, hB.2.2]; kernel_rfl
  have ev : vn (A.p 500) (B.p 500) = 1000000 := by rw [pa, pb]; kernel_rfl
  rw [ev, e1] at h1
  rw [ev, e2] at h2
  refine ⟨RL_t h1 (by omega) (by omega) (fun e h h' => ?_), RL_t h2 (by omega) (by omega) (fun e h h' => ?_)⟩
  · rw [decide_eq_true_iff, sq_lt_sq (by omega) (by omega)]
    omega
  · have := sq_lt_sq (c := e * 1000000) (x := 750000000) (by omega) (by omega)
    simp only [Bool.not_eq_true', decide_eq_false_iff_not, this]
    omega
def tS : Trk := ⟨0, 0, 2, 2, kS, 0⟩
def tP : Trk := ⟨0, 0, 2, 2, kP, 0⟩
theorem ex_arr : ((List.range 1001).all fun r => arrB tS tP 0 r == decide (r = 1000)) = true := by kernel_rfl
theorem ex_away : ((List.range 1001).all fun r => (!awayB tS tP 0 r) == decide (r = 1000)) = true := by kernel_rfl
theorem same_arr {A B A' B' : Trk} (hA : A.k = A'.k ∧ A.n = A'.n ∧ A.d = A'.d) (hB : B.k = B'.k ∧ B.n = B'.n ∧ B.d = B'.d) (s r : Int) : arrB A B s r = arrB A' B' s r ∧ awayB A B s r = awayB A' B' s r := by
  unfold arrB awayB sqF sqN Trk.p
  rw [hA.1, hA.2.1, hA.2.2, hB.1, hB.2.1, hB.2.2]
  exact ⟨rfl, rfl⟩
theorem ex_at {f : Int → Bool} (h : ((List.range 1001).all fun r => f r == decide (r = 1000)) = true) (e : Int) (h0 : 0 ≤ e) (h1 : e ≤ 1000) : f e = true ↔ 1000 ≤ e := by
  have := List.all_eq_true.1 h e.toNat (List.mem_range.2 (by omega))
  rw [beq_iff_eq, Int.toNat_of_nonneg h0] at this
  rw [this, decide_eq_true_iff]
  omega
theorem ex_recv {A B : Trk} {arr pos : Int} (hA : A.k = kS ∧ A.n = 2 ∧ A.d = 0) (hB : B.k = kP ∧ B.n = 2 ∧ B.d = 0) (h1 : RL (arrB A B 0) 0 1000 arr) (h2 : RL (fun r => !awayB A B 0 r) 0 arr pos) : arr = 1000 ∧ pos = 1000 := by
  have e1 : arr = 1000 := RL_t h1 (by omega) (by omega) (fun e h h' => by rw [(same_arr (A' := tS) (B' := tP) hA hB 0 e).1]; exact ex_at (f := arrB tS tP 0) ex_arr e h h')
  subst e1
  refine ⟨rfl, RL_t h2 (by omega) (by omega) (fun e h h' => ?_)⟩
  rw [(same_arr (A' := tS) (B' := tP) hA hB 0 e).2]
  exact ex_at (f := fun r => !awayB tS tP 0 r) ex_away e h h'
theorem ex_err (T : Int) (hT : T = 500 ∨ T = 0) {A B : TV} (hA : A.k = kS ∧ A.n = 2 ∧ A.d = 0) (hB : B.k = kP ∧ B.n = 2 ∧ B.d = 0) : distErr A B T = 0 := by
  unfold distErr bothErr timesErr TV.err
  rw [hA.1, hA.2.1, hA.2.2, hB.1, hB.2.1, hB.2.2]
  rcases hT with rfl | rfl <;> kernel_rfl
def x3 : Nat → Int := fun i => if i = 0 then 10 else if i = 1 then 30 else 95
theorem ex_pt : ptErr 100 (-150) 150 90 35 3 x3 = 0 := by kernel_rfl
theorem ex_ok : ∀ i, i < 3 → pOk 100 (-150) 150 90 35 3 x3 i := by
  intro i hi
  unfold pOk mok
  match i, hi with
  | 0, _ => exact (by decide +kernel)
  | 1, _ => exact (by decide +kernel)
  | 2, _ => exact (by decide +kernel)
theorem ex_trv : pTrv 100 (-150) 150 90 35 3 x3 3 = 75 := by kernel_rfl
theorem ex_pos : posL (pPos 100 (-150) 150 90 35 3 x3) 3 = [.int .i64 110, .int .i64 130, .int .i64 95] := by kernel_rfl
end Go.Proofs.YtjncjoaohonmjaaGreat
namespace Go.Proofs.YtjncjoaohonmjaaGreat
open Go.RowKit Go.Shelf Go.Sort
attribute [local go_sem] idx3_0 idx3_1 idx3_2 old1 fro1 old2 fro2 old3 fro3 old4 fro4 old5 fro5 old6 fro6 old7 fro7 old8 fro8 old9 fro9 old10 fro10 old11 fro11 old12 fro12
set_option maxRecDepth 100000 in
set_option maxHeartbeats 2000000 in
theorem track2 {w : World} {b : Nat} {k : Nat → Knot} (h : ∀ i, i < 2 → w.cell? ⟨b, 0 + i * 4, none⟩ = some (.int .i64 (k i).t) ∧ w.cell? ⟨b, 0 + i * 4 + 1, none⟩ = some (.int .i64 (k i).x) ∧ w.cell? ⟨b, 0 + i * 4 + 2, none⟩ = some (.int .i64 (k i).y) ∧ w.cell? ⟨b, 0 + i * 4 + 3, none⟩ = some (.int .i64 (k i).z)) :
    TV.At ⟨some ⟨b, 0, none⟩, 2, 2, k, 0⟩ w := ⟨fun _ => ⟨b, 0, rfl, lt_of (h 0 (by omega)).1, h⟩, by show 2 ≤ 9223372036854775807; omega⟩
theorem station_any (w : World) : Calls Tryz.prog 22 #[] w fun e w' => ∃ b, e = .returned (.agg #[.slice (some ⟨b, 0, none⟩) 2 2, .int .i64 0]) ∧ TV.At ⟨some ⟨b, 0, none⟩, 2, 2, kS, 0⟩ w' ∧ Below w.heap.size w w' := by
  go_enter Tryz.func22, Tryz.ntmps22
  go_wp2_with fail
  refine bodyPost_ret (v := .agg #[.slice (some ⟨w.heap.size + 1, 0, none⟩) 2 2, .int .i64 0]) (by simp [results, Tryz.results22, go_sem]) rfl ?_
  refine ⟨_, rfl, track2 (fun i hi => ?_), by (repeat (first | with_reducible exact Below.refl _ _ | with_reducible assumption | with_reducible refine Below.alloc ?_ (by first | (simp; done) | (simp; omega) | omega) _ | with_reducible refine Below.setCell ?_ (by first | (simp; done) | (simp; omega) | omega) _ | with_reducible refine Below.drew ?_ | with_reducible refine below_drewN ?_ _))⟩
  match i, hi with
  | 0, _ => refine ⟨?_, ?_, ?_, ?_⟩ <;> simp [go_sem, kS]
  | 1, _ => refine ⟨?_, ?_, ?_, ?_⟩ <;> simp [go_sem, kS]
theorem probe_any (w : World) : Calls Tryz.prog 23 #[] w fun e w' => ∃ b, e = .returned (.agg #[.slice (some ⟨b, 0, none⟩) 2 2, .int .i64 0]) ∧ TV.At ⟨some ⟨b, 0, none⟩, 2, 2, kP, 0⟩ w' ∧ Below w.heap.size w w' := by
  go_enter Tryz.func23, Tryz.ntmps23
  go_wp2_with fail
  refine bodyPost_ret (v := .agg #[.slice (some ⟨w.heap.size + 1, 0, none⟩) 2 2, .int .i64 0]) (by simp [results, Tryz.results23, go_sem]) rfl ?_
  refine ⟨_, rfl, track2 (fun i hi => ?_), by (repeat (first | with_reducible exact Below.refl _ _ | with_reducible assumption | with_reducible refine Below.alloc ?_ (by first | (simp; done) | (simp; omega) | omega) _ | with_reducible refine Below.setCell ?_ (by first | (simp; done) | (simp; omega) | omega) _ | with_reducible refine Below.drew ?_ | with_reducible refine below_drewN ?_ _))⟩
  match i, hi with
  | 0, _ => refine ⟨?_, ?_, ?_, ?_⟩ <;> simp [go_sem, kP]
  | 1, _ => refine ⟨?_, ?_, ?_, ?_⟩ <;> simp [go_sem, kP]
theorem ex1 (w : World) (b1 b2 : Nat) (h1 : TV.At ⟨some ⟨b1, 0, none⟩, 2, 2, kS, 0⟩ w) (h2 : TV.At ⟨some ⟨b2, 0, none⟩, 2, 2, kP, 0⟩ w) :
    Calls Tryz.prog 21 #[.agg #[.slice (some ⟨b1, 0, none⟩) 2 2, .int .i64 0], .agg #[.slice (some ⟨b2, 0, none⟩) 2 2, .int .i64 0], .int .i64 500] w fun e w' => e = .returned (.tuple #[.agg #[.int .i64 750, .int .i64 750], .int .i64 0]) ∧ Below w.heap.size w w' :=
  (distanceAt_x _ _ 2 2 2 2 kS kP 0 0 500 w h1 h2).mono (by
    rintro e w' ⟨hb, hh⟩
    rw [if_pos (ex_err 500 (.inl rfl) ⟨rfl, rfl, rfl⟩ ⟨rfl, rfl, rfl⟩)] at hh
    obtain ⟨A', B', r1, r2, hA, hB, rfl, h1, h2⟩ := hh
    obtain ⟨rfl, rfl⟩ := ex_dist hA hB h1 h2
    exact ⟨rfl, hb⟩)
theorem ex2 (w : World) (b1 b2 : Nat) (h1 : TV.At ⟨some ⟨b1, 0, none⟩, 2, 2, kS, 0⟩ w) (h2 : TV.At ⟨some ⟨b2, 0, none⟩, 2, 2, kP, 0⟩ w) :
    Calls Tryz.prog 24 #[.agg #[.slice (some ⟨b1, 0, none⟩) 2 2, .int .i64 0], .agg #[.slice (some ⟨b2, 0, none⟩) 2 2, .int .i64 0], .int .i64 0] w fun e w' => e = .returned (.tuple #[.agg #[.int .i64 999, .int .i64 1000], .int .i64 0]) ∧ Below w.heap.size w w' :=
  (receivedAt_x _ _ 2 2 2 2 kS kP 0 0 0 w h1 h2).mono (by
    rintro e w' ⟨hb, hh⟩
    rw [if_pos (ex_err 0 (.inr rfl) ⟨rfl, rfl, rfl⟩ ⟨rfl, rfl, rfl⟩)] at hh
    obtain ⟨A', B', arr, hA, hB, h1, hh⟩ := hh
    have e1 : (kP (2 - 1)).t = 1000 := rfl
    simp only [e1] at h1 hh
    have hR : arr = 1000 := RL_t h1 (by omega) (by omega) (fun e h h' => by rw [(same_arr (A' := tS) (B' := tP) hA hB 0 e).1]; exact ex_at (f := arrB tS tP 0) ex_arr e h h')
    rcases hh with ⟨h3, _⟩ | ⟨_, pos, h2, rfl⟩
    · omega
    · obtain ⟨rfl, rfl⟩ := ex_recv hA hB h1 h2
      exact ⟨rfl, hb⟩)
def y3 : Nat → Int := fun i => if i = 0 then 110 else if i = 1 then 130 else 95
theorem ia3 {w : World} {b : Nat} {a0 a1 a2 : Int} {xs : Nat → Int} (h0 : w.cell? ⟨b, 0 + 0, none⟩ = some (.int .i64 a0)) (h1 : w.cell? ⟨b, 0 + 1, none⟩ = some (.int .i64 a1)) (h2 : w.cell? ⟨b, 0 + 2, none⟩ = some (.int .i64 a2)) (e0 : xs 0 = a0) (e1 : xs 1 = a1) (e2 : xs 2 = a2) : IA w (some ⟨b, 0, none⟩) 3 xs := fun _ => ⟨b, 0, rfl, fun i hi => by
  match i, hi with
  | 0, _ => rw [e0]; exact h0
  | 1, _ => rw [e1]; exact h1
  | 2, _ => rw [e2]; exact h2⟩
theorem ex3 (w : World) (A : Option Addr) (hA : IA w A 3 x3) :
    Calls Tryz.prog 16 #[.agg #[.int .i64 100, .int .i64 (-150), .int .i64 150, .int .i64 90, .int .i64 35], .slice A 3 3] w fun e w' => ∃ A2 c2, e = .returned (.tuple #[.slice A2 3 c2, .int .i64 75, .int .i64 0]) ∧ IA w' A2 3 y3 ∧ Below w.heap.size w w' :=
  (pointing_any 100 (-150) 150 90 35 A 3 3 x3 w (by omega) hA).mono (by
    rintro e w' ⟨hb, _, h⟩
    rcases h ex_pt with ⟨_, _, v, rfl, hv⟩ | ⟨⟨i, hi, hn⟩, _⟩
    · rw [ex_pos] at hv
      rw [ex_trv]
      obtain ⟨hv1, hv2⟩ := own_parts hv
      have hv3 := (hv2 (by omega)).1
      rw [hv3] at hv1
      rw [hv1] at hv ⊢
      have hc := fun i u h => hv.cells (g := sG v) rfl i u h
      refine ⟨_, _, rfl, ia3 (a0 := 110) (a1 := 130) (a2 := 95) ?_ ?_ ?_ rfl rfl rfl, hb⟩
      · simpa [Addr.add] using hc 0 _ rfl
      · simpa [Addr.add] using hc 1 _ rfl
      · simpa [Addr.add] using hc 2 _ rfl
    · exact absurd (ex_ok i hi) hn)
theorem thenB {w X Y : World} (h : Below w.heap.size w X) (h2 : Below X.heap.size X Y) : Below w.heap.size w Y := h.trans (h2.mono h.size)
theorem keepA {w : World} {a : Addr} {v : Value} (o : Obj) (h : w.cell? a = some v) : (w.alloc o).cell? a = some v := (World.cell?_alloc_some w a o (by rw [h]; rfl)).trans h
theorem two_new {w : World} {a b : Value} {T : TypeId} : (w.alloc (.cells #[a, b] T)).cell? ⟨w.heap.size, 0, none⟩ = some a ∧ (w.alloc (.cells #[a, b] T)).cell? ⟨w.heap.size, 1, none⟩ = some b := ⟨by simp [go_sem], by simp [go_sem]⟩
end Go.Proofs.YtjncjoaohonmjaaGreat
namespace Go.Proofs.YtjncjoaohonmjaaGreat
open Go.RowKit Go.Shelf Go.Sort
attribute [local go_sem] idx3_0 idx3_1 idx3_2 old1 fro1 old2 fro2 old3 fro3 old4 fro4 old5 fro5 old6 fro6 old7 fro7 old8 fro8 old9 fro9 old10 fro10 old11 fro11 old12 fro12
def Entr (g : Nat) : Prop := ∀ args w, (callFunc g args).run Tryz.prog w = .ok (.enter g args) w
/-- the value is a closure that answers the error er in each later world, if what it relies on holds -/
def Chk (pre : Prop) (er : Int) (v : Value) (w : World) : Prop := ∃ g cb, v = .func (.func g) #[] cb ∧ Entr g ∧ ∀ w1, Below w.heap.size w w1 → pre → Calls Tryz.prog g cb w1 fun e w' => e = .returned (.int .i64 er) ∧ Below w1.heap.size w1 w'
/-- .. that answers the Bool b -/
def Cnd (pre : Prop) (b : Bool) (v : Value) (w : World) : Prop := ∃ g cb, v = .func (.func g) #[] cb ∧ Entr g ∧ ∀ w1, Below w.heap.size w w1 → pre → Calls Tryz.prog g cb w1 fun e w' => e = .returned (.bool b) ∧ Below w1.heap.size w1 w'
theorem Chk.on {pre : Prop} {er : Int} {v : Value} {w w2 : World} (h : Chk pre er v w) (hb : Below w.heap.size w w2) : Chk pre er v w2 := by
  obtain ⟨g, cb, hv, he, hc⟩ := h
  exact ⟨g, cb, hv, he, fun w1 h1 hp => hc w1 (belowT hb h1) hp⟩
theorem Cnd.on {pre : Prop} {b : Bool} {v : Value} {w w2 : World} (h : Cnd pre b v w) (hb : Below w.heap.size w w2) : Cnd pre b v w2 := by
  obtain ⟨g, cb, hv, he, hc⟩ := h
  exact ⟨g, cb, hv, he, fun w1 h1 hp => hc w1 (belowT hb h1) hp⟩
theorem Chk.imp {pre pre' : Prop} {er : Int} {v : Value} {w : World} (h : Chk pre er v w) (hp : pre' → pre) : Chk pre' er v w := by
  obtain ⟨g, cb, hv, he, hc⟩ := h
  exact ⟨g, cb, hv, he, fun w1 h1 h2 => hc w1 h1 (hp h2)⟩
def Chks (n : Nat) (er : Nat → Int) (v : Value) (w : World) : Prop := ∃ L, v = .slice (some ⟨L, 0, none⟩) n n ∧ ∃ F : Nat → Value, (∀ i, i < n → w.cell? ⟨L, 0 + i, none⟩ = some (F i)) ∧ ∀ i, i < n → Chk (∀ j, j < i → er j = 0) (er i) (F i) w
theorem Chks.on {n : Nat} {er : Nat → Int} {v : Value} {w w2 : World} (h : Chks n er v w) (hb : Below w.heap.size w w2) : Chks n er v w2 := by
  obtain ⟨L, hv, F, hF, hC⟩ := h
  exact ⟨L, hv, F, fun i hi => keep hb (hF i hi), fun i hi => (hC i hi).on hb⟩
theorem first_chks {n : Nat} {er : Nat → Int} {v : Value} {w : World} (hn : n ≤ 100) (h0 : 0 < n) (h : Chks n er v w) :
    Calls Tryz.prog 29 #[v] w fun e w' => e = .returned (.int .i64 (ferr er 0 n)) ∧ Below w.heap.size w w' := by
  obtain ⟨L, rfl, F, hF, hC⟩ := h
  have h1 : ∀ i, ∃ q : Nat × Array Value, i < n → F i = .func (.func q.1) #[] q.2 ∧ Entr q.1 ∧ ∀ w1, Below w.heap.size w w1 → (∀ j, j < i → er j = 0) → Calls Tryz.prog q.1 q.2 w1 fun e w' => e = .returned (.int .i64 (er i)) ∧ Below w1.heap.size w1 w' := by
    intro i
    by_cases hi : i < n
    · obtain ⟨g, cb, hv⟩ := hC i hi
      exact ⟨(g, cb), fun _ => hv⟩
    · exact ⟨(0, #[]), fun h => absurd h hi⟩
  obtain ⟨q, hq⟩ := Classical.skolem.1 h1
  exact firstError_any L n (fun i => (q i).1) (fun i => (q i).2) er w hn (lt_of (hF 0 h0)) (fun i hi => by rw [hF i hi, (hq i hi).1]) (fun i hi => (hq i hi).2.1) (fun i w1 hi hz hb => (hq i hi).2.2 w1 hb hz)
def Two (A B : TV) (v : Value) (w : World) : Prop := ∃ b, v = .slice (some ⟨b, 0, none⟩) 2 2 ∧ w.cell? ⟨b, 0, none⟩ = some (.slice A.a A.n A.c) ∧ w.cell? ⟨b, 1, none⟩ = some (.int .i64 A.d) ∧ w.cell? ⟨b, 2, none⟩ = some (.slice B.a B.n B.c) ∧ w.cell? ⟨b, 3, none⟩ = some (.int .i64 B.d)
theorem Two.on {A B : TV} {v : Value} {w w2 : World} (h : Two A B v w) (hb : Below w.heap.size w w2) : Two A B v w2 := by
  obtain ⟨b, hv, h0, h1, h2, h3⟩ := h
  exact ⟨b, hv, keep hb h0, keep hb h1, keep hb h2, keep hb h3⟩
def mpChk (pre : Prop) (er : Int) : MP := ⟨Chk pre er, fun _ _ _ h hb => h.on hb⟩
def mpCnd (pre : Prop) (b : Bool) : MP := ⟨Cnd pre b, fun _ _ _ h hb => h.on hb⟩
def mpChks (n : Nat) (er : Nat → Int) : MP := ⟨Chks n er, fun _ _ _ h hb => h.on hb⟩
def mpTwo (A B : TV) : MP := ⟨Two A B, fun _ _ _ h hb => h.on hb⟩
def TV.v (A : TV) : Value := .agg #[.slice A.a A.n A.c, .int .i64 A.d]
theorem trackCheck_chk (A : TV) (w : World) (hA : A.At w) :
    Calls Tryz.prog 30 #[.agg #[.slice A.a A.n A.c, .int .i64 A.d]] w fun e w' => ∃ v, e = .returned v ∧ Below w.heap.size w w' ∧ Chk True A.err v w' := by
  refine (trackCheck_any A.a A.n A.c A.d w).mono ?_
  rintro e w' ⟨rfl, rfl⟩
  have hb : Below w.heap.size w (w.alloc (.cells #[.slice A.a A.n A.c, .int .i64 A.d] 29)) := (Below.refl _ _).alloc (Nat.le_refl _) _
  exact ⟨_, rfl, hb, _, _, rfl, (enters_of Tryz.func63 (by kernel_rfl) rfl), fun w1 h1 _ => trackCheck1_any A.a A.n A.c w.heap.size A.d w1 A.k hA.2 (hA.below (belowT hb h1)).1 (keep h1 (by simp [go_sem])) (keep h1 (by simp [go_sem]))⟩
theorem tc_item (A B : TV) (time : Int) (q1 q2 s t TB : Nat) (W w1 : World) (hb : Below W.heap.size W w1) (hA : A.At W) (hB : B.At W) (hA0 : A.err = 0) (hB0 : B.err = 0)
    (c0 : W.cell? ⟨q1, 0, none⟩ = some (.func (.func 65) #[] #[.pointer (some ⟨s, 0, none⟩), .pointer (some ⟨t, 0, none⟩)])) (c1 : W.cell? ⟨q2, 0, none⟩ = some (.int .i64 2))
    (s0 : W.cell? ⟨s, 0, none⟩ = some (.slice (some ⟨TB, 0, none⟩) 2 2)) (t0 : W.cell? ⟨t, 0, none⟩ = some (.int .i64 time))
    (e0 : W.cell? ⟨TB, 0, none⟩ = some (.slice A.a A.n A.c)) (e1 : W.cell? ⟨TB, 1, none⟩ = some (.int .i64 A.d)) (e2 : W.cell? ⟨TB, 2, none⟩ = some (.slice B.a B.n B.c)) (e3 : W.cell? ⟨TB, 3, none⟩ = some (.int .i64 B.d)) :
    Calls Tryz.prog 97 #[.pointer (some ⟨q1, 0, none⟩), .pointer (some ⟨q2, 0, none⟩)] w1 fun e w' => e = .returned (.int .i64 (timesErr A B time)) ∧ Below w1.heap.size w1 w' := by
  obtain ⟨ba, oa, ea, ha⟩ := TV.valid (hA.below hb) hA0
  obtain ⟨bb, ob, eb, hbb⟩ := TV.valid (hB.below hb) hB0
  rw [ea] at e0
  rw [eb] at e2
  have hc := timeCheck1_any 2 TB s t (fun i => if i = 0 then ⟨ba, oa, A.n, A.c, A.k, A.d⟩ else ⟨bb, ob, B.n, B.c, B.k, B.d⟩) time w1 (by omega) (keep hb s0) (keep hb t0) (lt_of (keep hb e0)) (lt_of (keep hb t0))
    (fun i hi => by
      rcases (by omega : i = 0 ∨ i = 1) with rfl | rfl
      · exact ⟨keep hb e0, keep hb e1⟩
      · exact ⟨keep hb e2, keep hb e3⟩)
    (fun i hi => by
      rcases (by omega : i = 0 ∨ i = 1) with rfl | rfl
      · exact ha
      · exact hbb)
  have hreq := require1_any q1 q2 65 #[.pointer (some ⟨s, 0, none⟩), .pointer (some ⟨t, 0, none⟩)] 2 _ w1 (keep hb c0) (keep hb c1) (lt_of (keep hb c1)) (enters_of Tryz.func65 (by kernel_rfl) rfl) hc
  refine hreq.mono ?_
  rintro e w' ⟨rfl, hw⟩
  refine ⟨ret_int ?_, hw⟩
  simp only [timesErr]
  simp [List.range, List.range.loop]
  cases outside time A.k A.n <;> cases outside time B.k B.n <;> simp
theorem timeCheck_chk (A B : TV) (time : Int) (v : Value) (w : World) (hA : A.At w) (hB : B.At w) (h : Two A B v w) :
    Calls Tryz.prog 31 #[.int .i64 time, v] w fun e w' => ∃ v', e = .returned v' ∧ Below w.heap.size w w' ∧ Chk (A.err = 0 ∧ B.err = 0) (timesErr A B time) v' w' := by
  obtain ⟨b, rfl, e0, e1, e2, e3⟩ := h
  refine (timeCheck_any time _ _ _ _ rfl w).mono ?_
  rintro e w' ⟨rfl, rfl⟩
  have hb : Below w.heap.size w ((((w.alloc (.cells #[.int .i64 time] 3)).alloc (.cells #[.slice (some ⟨b, 0, none⟩) 2 2] 108)).alloc (.cells #[.int .i64 2] 44)).alloc (.cells #[.func (.func 65) #[] #[.pointer (some ⟨w.heap.size + 1, 0, none⟩), .pointer (some ⟨w.heap.size, 0, none⟩)]] 37)) := by (repeat (first | with_reducible exact Below.refl _ _ | with_reducible assumption | with_reducible refine Below.alloc ?_ (by first | (simp; done) | (simp; omega) | omega) _ | with_reducible refine Below.setCell ?_ (by first | (simp; done) | (simp; omega) | omega) _ | with_reducible refine Below.drew ?_ | with_reducible refine below_drewN ?_ _))
  have k0 := keep hb e0
  have k1 := keep hb e1
  have k2 := keep hb e2
  have k3 := keep hb e3
  exact ⟨_, rfl, hb, _, _, rfl, (enters_of Tryz.func97 (by kernel_rfl) rfl), fun w1 h1 hp => tc_item A B time (w.heap.size + 1 + 1 + 1) (w.heap.size + 1 + 1) (w.heap.size + 1) w.heap.size b _ w1 h1 (hA.below hb) (hB.below hb) hp.1 hp.2 (by simp [go_sem]) (by simp [go_sem]) (by simp [go_sem]) (by simp [go_sem]) k0 k1 k2 k3⟩
theorem require_chk {pre : Prop} {b : Bool} (er : Int) (v : Value) (w : World) (h : Cnd pre b v w) :
    Calls Tryz.prog 46 #[.int .i64 er, v] w fun e w' => ∃ v', e = .returned v' ∧ Below w.heap.size w w' ∧ Chk pre (if b then 0 else er) v' w' := by
  obtain ⟨g, cb, rfl, he, hc⟩ := h
  refine (require_any er g cb w).mono ?_
  rintro e w' ⟨rfl, rfl⟩
  have hb : Below w.heap.size w ((w.alloc (.cells #[.int .i64 er] 44)).alloc (.cells #[.func (.func g) #[] cb] 37)) := by (repeat (first | with_reducible exact Below.refl _ _ | with_reducible assumption | with_reducible refine Below.alloc ?_ (by first | (simp; done) | (simp; omega) | omega) _ | with_reducible refine Below.setCell ?_ (by first | (simp; done) | (simp; omega) | omega) _ | with_reducible refine Below.drew ?_ | with_reducible refine below_drewN ?_ _))
  exact ⟨_, rfl, hb, _, _, rfl, (enters_of Tryz.func97 (by kernel_rfl) rfl), fun w1 h1 hp => require1_any (w.heap.size + 1) w.heap.size g cb er b w1 (keep h1 (by simp [go_sem])) (keep h1 (by simp [go_sem])) (lt_of (keep h1 (b := w.heap.size) (o := 0) (v := .int .i64 er) (by simp [go_sem]))) he (hc w1 (belowT hb h1) hp)⟩
end Go.Proofs.YtjncjoaohonmjaaGreat
namespace Go.Proofs.YtjncjoaohonmjaaGreat
open Go.RowKit Go.Shelf Go.Sort
attribute [local go_sem] idx3_0 idx3_1 idx3_2 old1 fro1 old2 fro2 old3 fro3 old4 fro4 old5 fro5 old6 fro6 old7 fro7 old8 fro8 old9 fro9 old10 fro10 old11 fro11 old12 fro12
set_option maxRecDepth 100000 in
set_option maxHeartbeats 400000 in
theorem bwithin_any (x lo hi : Int) (w : World) :
    Calls Tryz.prog 27 #[.int .i64 x, .int .i64 lo, .int .i64 hi] w fun e w' => e = .returned (.bool (wi x lo hi)) ∧ w = w' := by
  by_cases h : lo ≤ x
  · go_enter Tryz.func27, Tryz.ntmps27
    go_wp2
    go_ret
    exact ⟨by simp [wi, h], rfl⟩
  · go_enter Tryz.func27, Tryz.ntmps27
    go_wp2
    go_ret
    exact ⟨ret_bool (wi_f.2 (by omega)).symm, rfl⟩
set_option maxRecDepth 100000 in
set_option maxHeartbeats 400000 in
theorem bsize_any (x : Int) (h1 : -9223372036854775807 ≤ x) (h2 : x ≤ 9223372036854775807) (w : World) :
    Calls Tryz.prog 38 #[.int .i64 x] w fun e w' => e = .returned (.int .i64 (siz x)) ∧ w = w' := by
  go_enter Tryz.func38, Tryz.ntmps38
  go_wp2
  all_goals (go_ret; exact ⟨ret_int (by unfold siz; omega), rfl⟩)
theorem mod_parts (x t : Int) (h1 : 1 ≤ t) : (x.tmod t < 0 ∧ x.tmod t + t = x % t ∧ -t < x.tmod t) ∨ (0 ≤ x.tmod t ∧ x.tmod t = x % t ∧ x.tmod t < t) := by
  have e1 := Int.tdiv_mul_add_tmod x t
  have h3 := Int.emod_nonneg x (show t ≠ 0 by omega)
  have h4 := Int.emod_lt_of_pos x (show 0 < t by omega)
  rcases Int.lt_or_le (x.tmod t) 0 with h | h
  · left
    have h6 : -t < x.tmod t := Int.lt_tmod_of_pos x (by omega)
    refine ⟨h, ?_, h6⟩
    have h8 : x = x.tmod t + t + t * (x.tdiv t - 1) := by rw [Int.mul_sub, Int.mul_one, Int.mul_comm]; omega
    have h9 : x % t = (x.tmod t + t + t * (x.tdiv t - 1)) % t := by rw [← h8]
    rw [h9, Int.add_mul_emod_self_left, Int.emod_eq_of_lt (by omega) (by omega)]
  · right
    have h6 : x.tmod t < t := Int.tmod_lt_of_pos x (by omega)
    refine ⟨h, ?_, h6⟩
    have h8 : x = x.tmod t + t * x.tdiv t := by rw [Int.mul_comm]; omega
    have h9 : x % t = (x.tmod t + t * x.tdiv t) % t := by rw [← h8]
    rw [h9, Int.add_mul_emod_self_left, Int.emod_eq_of_lt (by omega) (by omega)]
theorem mod_zero (x t : Int) (h1 : 1 ≤ t) : (x % t == 0) = (x.tmod t == 0) := by
  rcases mod_parts x t h1 with ⟨a, b, c⟩ | ⟨a, b, c⟩
  · rw [← b]
    have e1 : (x.tmod t == 0) = false := by simp; omega
    have e2 : (x.tmod t + t == 0) = false := by simp; omega
    rw [e1, e2]
  · rw [b]
set_option maxRecDepth 100000 in
set_option maxHeartbeats 800000 in
theorem bmod_any (x t : Int) (h1 : 1 ≤ t) (h2 : t ≤ 1000000000) (_ : -1000000000 ≤ x) (_ : x ≤ 1000000000) (w : World) :
    Calls Tryz.prog 20 #[.int .i64 x, .int .i64 t] w fun e w' => e = .returned (.int .i64 (x % t)) ∧ w = w' := by
  have u2 : (t == 0) = false := by simp; omega
  have u3 : ¬ t = 0 := by omega
  rcases mod_parts x t h1 with ⟨a, b, c⟩ | ⟨a, b, c⟩
  · generalize x % t = q at *
    generalize hm : x.tmod t = m at *
    have hp : m < 0 := a
    have u1 : IntKind.i64.wrap m = m := IntWalk.i64_in _ (by omega)
    have u4 : IntKind.i64.wrap (m + t) = m + t := IntWalk.i64_in _ (by omega)
    go_enter Tryz.func20, Tryz.ntmps20
    go_wp2
    go_ret
    exact ⟨rfl, rfl⟩
  · generalize x % t = q at *
    generalize hm : x.tmod t = m at *
    have hp : ¬ m < 0 := by omega
    have u1 : IntKind.i64.wrap m = m := IntWalk.i64_in _ (by omega)
    go_enter Tryz.func20, Tryz.ntmps20
    go_wp2
    go_ret
    exact ⟨rfl, rfl⟩
theorem addr_add (b o i : Nat) : ((⟨b, o, none⟩ : Addr).add i) = ⟨b, o + i, none⟩ := by simp [Addr.add]
def intsL (n : Nat) (xs : Nat → Int) : List Value := (List.range n).map fun i => .int .i64 (xs i)
theorem own_ints {w : World} {base e n : Nat} {v : Value} {xs : Nat → Int} (h : w.ownsRow base e 1 v n (intsL n xs)) : v = .slice (sA v) n (sC v) ∧ IA w (sA v) n xs := by
  obtain ⟨h1, h2⟩ := own_parts h
  refine ⟨h1, fun h0 => ?_⟩
  obtain ⟨h3, h4⟩ := h2 h0
  rw [h3] at h1
  rw [h1] at h
  refine ⟨sG v, 0, h3, fun i hi => ?_⟩
  have hc := h.cells (g := sG v) rfl i (.int .i64 (xs i)) (by simp [intsL, hi])
  rwa [addr_add] at hc
set_option maxRecDepth 100000 in
set_option maxHeartbeats 800000 in
theorem copyInts_some (a : Addr) (n c : Nat) (xs : Nat → Int) (w : World) (hn : n ≤ 1000000) (hA : IA w (some a) n xs) :
    Calls Tryz.prog 17 #[.slice (some a) n c] w fun e w' => ∃ A' c', e = .returned (.slice A' n c') ∧ IA w' A' n xs ∧ Below w.heap.size w w' := by
  obtain ⟨i0, hi0, hzz⟩ := Option.map_eq_some_iff.1 infoInt
  simp only [Prod.mk.injEq] at hzz
  obtain ⟨hz0, hz1, hz2⟩ := hzz
  have hnews : ∀ j u, (intsL n xs)[j]? = some u → w.cell? (a.add j) = some u := by
    intro j u hu
    have hj : j < n := by
      have := (List.getElem?_eq_some_iff.1 hu).1
      simpa [intsL] using this
    obtain ⟨b, o, e, hc⟩ := hA (by omega)
    obtain rfl : a = ⟨b, o, none⟩ := by simpa using e
    rw [addr_add, hc j hj]
    simpa [intsL, hj] using hu
  have HN := Lib.hid hnews
  have HA := Lib.hid hA
  clear hnews hA
  go_enter Tryz.func17, Tryz.ntmps17
  go_wp2_with (first
    | (at_builtin; go_loud (refine wpList_append_own_at _ rfl _ _ 36 rfl w.heap.size 3 i0 _ 1 8 undInts hi0 hz0 hz1 hz2 rfl (by decide) _ 0 [] rfl (World.ownsRow_made w #[] 0 (Nat.le_refl _) (by unfold maxLen; omega) rfl) a n c (intsL n xs) rfl (by simp [intsL]) (fun j u hu => (World.cell?_alloc_some w _ _ (by rw [HN.out j u hu]; rfl)).trans (HN.out j u hu)) (by simp [intsL, Value.oneCell']) (by unfold maxLen; omega) (by omega) (by simp) ?_; intro v' w5 hown' hgrow hnil hloc; obtain ⟨hv', hA'⟩ := own_ints (xs := xs) (by simpa using hown'); have HB5 : Below w.heap.size w w5 := ((Below.refl w.heap.size w).alloc (Nat.le_refl _) _).grown hgrow (by first | (simp; done) | (simp; omega) | omega) (fun k h => by cases h; exact Nat.le_refl _); have HA5 := Lib.hid hA'; rw [hv']; clear hown' hgrow hnil hloc hv' hA'))
    | fail)
  go_ret
  exact ⟨_, _, rfl, HA5.out, HB5⟩
set_option maxRecDepth 100000 in
set_option maxHeartbeats 800000 in
theorem copyInts_nil (w : World) :
    Calls Tryz.prog 17 #[.slice none 0 0] w fun e w' => ∃ A' c', e = .returned (.slice A' 0 c') ∧ Below w.heap.size w w' := by
  go_enter Tryz.func17, Tryz.ntmps17
  go_wp2_with fail
  go_ret
  exact ⟨_, _, rfl, by (repeat (first | with_reducible exact Below.refl _ _ | with_reducible assumption | with_reducible refine Below.alloc ?_ (by first | (simp; done) | (simp; omega) | omega) _ | with_reducible refine Below.setCell ?_ (by first | (simp; done) | (simp; omega) | omega) _ | with_reducible refine Below.drew ?_ | with_reducible refine below_drewN ?_ _))⟩
set_option maxRecDepth 100000 in
set_option maxHeartbeats 2000000 in
theorem rdriveErr_any (t lo hi st ra : Int) (w : World) :
    Calls Tryz.prog 7 #[.agg #[.int .i64 t, .int .i64 lo, .int .i64 hi, .int .i64 st, .int .i64 ra]] w fun e w' => e = .returned (.int .i64 (driveErr t lo hi st ra)) ∧ Below w.heap.size w w' := by
  go_enter Tryz.func7, Tryz.ntmps7
  go_wp2_with (first | (go_at_call 27; (with_reducible refine (bwithin_any _ _ _ _).mono ?_); rintro e w' ⟨rfl, rfl⟩))
  all_goals
    go_ret
    refine ⟨ret_int ?_, by (repeat (first | with_reducible exact Below.refl _ _ | with_reducible assumption | with_reducible refine Below.alloc ?_ (by first | (simp; done) | (simp; omega) | omega) _ | with_reducible refine Below.setCell ?_ (by first | (simp; done) | (simp; omega) | omega) _ | with_reducible refine Below.drew ?_ | with_reducible refine below_drewN ?_ _))⟩
    unfold driveErr dr1
    by_cases hq : lo ≤ hi
    · first
        | omega
        | (simp_all; done)
    · have hq2 : decide (lo ≤ hi) = false := by simp; omega
      rw [hq2]
      first
        | omega
        | (simp_all; done)
theorem tg_hit {t : Int} {xs : Nat → Int} {n k : Nat} (hk : k < n) (h : wi (xs k) 0 (t - 1) = false) : ((List.range n).any fun i => !wi (xs i) 0 (t - 1)) = true := List.any_eq_true.2 ⟨k, List.mem_range.2 hk, by simp [h]⟩
theorem tg_miss {t : Int} {xs : Nat → Int} {n : Nat} (h : ∀ i, i < n → wi (xs i) 0 (t - 1) = true) : ((List.range n).any fun i => !wi (xs i) 0 (t - 1)) = false := List.any_eq_false.2 fun i hi => by simp [h i (List.mem_range.1 hi)]
end Go.Proofs.YtjncjoaohonmjaaGreat
namespace Go.Proofs.YtjncjoaohonmjaaGreat
open Go.RowKit Go.Shelf Go.Sort
attribute [local go_sem] idx3_0 idx3_1 idx3_2 old1 fro1 old2 fro2 old3 fro3 old4 fro4 old5 fro5 old6 fro6 old7 fro7 old8 fro8 old9 fro9 old10 fro10 old11 fro11 old12 fro12
set_option maxRecDepth 100000 in
set_option maxHeartbeats 400000 in
theorem bfloor_any (num den : Int) (hd : 0 < den) (hd2 : den ≤ 4611686018427387904) (h1 : -4611686018427387904 ≤ num) (h2 : num ≤ 4611686018427387904) (w : World) :
    Calls Tryz.prog 75 #[.int .i64 num, .int .i64 den] w fun e w' => e = .returned (.int .i64 (num / den)) ∧ w = w' := by
  obtain ⟨q1, q2, q3, q4⟩ := tdiv_bd num den hd h1 h2
  have hne : ¬ den = 0 := by omega
  have e1 := Int.tdiv_mul_add_tmod num den
  have e2 := Int.mul_ediv_add_emod num den
  have u1 : IntKind.i64.wrap (num.tdiv den) = num.tdiv den := IntWalk.i64_in _ (by omega)
  have u2 : IntKind.i64.wrap (num.tdiv den - 1) = num.tdiv den - 1 := IntWalk.i64_in _ (by omega)
  rcases mod_parts num den (by omega) with ⟨a, b, c⟩ | ⟨a, b, c⟩
  · have u3 : IntKind.i64.wrap (num.tmod den) = num.tmod den := IntWalk.i64_in _ (by omega)
    have HR : Hid (num.tdiv den - 1 = num / den) := by
      show num.tdiv den - 1 = num / den
      rw [← b] at e2
      have e3 : num.tdiv den * den = den * num.tdiv den := Int.mul_comm _ _
      have e4 : den * (num / den) = den * (num.tdiv den - 1) := by rw [Int.mul_sub, Int.mul_one]; omega
      exact (Int.eq_of_mul_eq_mul_left hne e4).symm
    have HP := Lib.hid a
    have p1 : num.tmod den < 0 := a
    clear e1 e2 a b c
    go_enter Tryz.func75, Tryz.ntmps75
    go_wp2
    go_ret
    exact ⟨ret_int HR.out, rfl⟩
  · have u3 : IntKind.i64.wrap (num.tmod den) = num.tmod den := IntWalk.i64_in _ (by omega)
    have HR : Hid (num.tdiv den = num / den) := by
      show num.tdiv den = num / den
      rw [← b] at e2
      have e3 : num.tdiv den * den = den * num.tdiv den := Int.mul_comm _ _
      have e4 : den * (num / den) = den * num.tdiv den := by omega
      exact (Int.eq_of_mul_eq_mul_left hne e4).symm
    have p1 : ¬ num.tmod den < 0 := by omega
    clear e1 e2 a b c
    go_enter Tryz.func75, Tryz.ntmps75
    go_wp2
    go_ret
    exact ⟨ret_int HR.out, rfl⟩
set_option maxRecDepth 100000 in
set_option maxHeartbeats 400000 in
theorem bceil_any (num den : Int) (hd : 0 < den) (hd2 : den ≤ 4611686018427387904) (h1 : -4611686018427387904 ≤ num) (h2 : num ≤ 4611686018427387904) (w : World) :
    Calls Tryz.prog 76 #[.int .i64 num, .int .i64 den] w fun e w' => e = .returned (.int .i64 (-(-num / den))) ∧ w = w' := by
  have hb : -4611686018427387904 ≤ -num / den ∧ -num / den ≤ 4611686018427387904 := by
    have := floor_plain (-num) den hd
    have := tdiv_bd (-num) den hd (by omega) (by omega)
    have h1 : -num ≤ -num / den ∨ 0 ≤ -num / den := by
      by_cases h : 0 ≤ -num
      · right; exact Int.ediv_nonneg h (by omega)
      · left; exact (Int.le_ediv_iff_mul_le hd).2 (by have := Int.mul_le_mul_of_nonpos_left (show -num ≤ 0 by omega) (show 1 ≤ den by omega); omega)
    omega
  obtain ⟨b1, b2⟩ := hb
  go_enter Tryz.func76, Tryz.ntmps76
  go_wp2_with (go_at_call 75; refine (bfloor_any _ _ hd hd2 (by omega) (by omega) _).mono ?_; rintro e w' ⟨rfl, rfl⟩)
  go_ret
  exact ⟨rfl, rfl⟩
set_option maxRecDepth 100000 in
set_option maxHeartbeats 400000 in
theorem btick_any (x : Int) (w : World) : Calls Tryz.prog 121 #[.int .i64 x] w fun e w' => e = .returned (.bool (wi x 0 1000000000000)) ∧ w = w' := by
  go_enter Tryz.func121, Tryz.ntmps121
  go_wp2_with (go_at_call 27; (with_reducible refine (bwithin_any _ _ _ _).mono ?_); rintro e w' ⟨rfl, rfl⟩)
  go_ret
  exact ⟨rfl, rfl⟩
set_option maxRecDepth 100000 in
set_option maxHeartbeats 800000 in
theorem bminus_any (x y z x0 y0 z0 : Int) (a1 : -1000000 ≤ x) (a2 : x ≤ 1000000) (a3 : -1000000 ≤ y) (a4 : y ≤ 1000000) (a5 : -1000000 ≤ z) (a6 : z ≤ 1000000) (b1 : -1000000 ≤ x0) (b2 : x0 ≤ 1000000) (b3 : -1000000 ≤ y0) (b4 : y0 ≤ 1000000) (b5 : -1000000 ≤ z0) (b6 : z0 ≤ 1000000) (w : World) :
    Calls Tryz.prog 72 #[.agg #[.int .i64 x, .int .i64 y, .int .i64 z], .agg #[.int .i64 x0, .int .i64 y0, .int .i64 z0]] w fun e w' => e = .returned (.agg #[.int .i64 (x - x0), .int .i64 (y - y0), .int .i64 (z - z0)]) ∧ Below w.heap.size w w' := by
  have u1 : IntKind.i64.wrap (x - x0) = x - x0 := IntWalk.i64_in _ (by omega)
  have u2 : IntKind.i64.wrap (y - y0) = y - y0 := IntWalk.i64_in _ (by omega)
  have u3 : IntKind.i64.wrap (z - z0) = z - z0 := IntWalk.i64_in _ (by omega)
  go_enter Tryz.func72, Tryz.ntmps72
  go_wp2_with fail
  refine bodyPost_ret (v := .agg #[.int .i64 (x - x0), .int .i64 (y - y0), .int .i64 (z - z0)]) (by simp [results, Tryz.results72, go_sem]) rfl ⟨rfl, by (repeat (first | with_reducible exact Below.refl _ _ | with_reducible assumption | with_reducible refine Below.alloc ?_ (by first | (simp; done) | (simp; omega) | omega) _ | with_reducible refine Below.setCell ?_ (by first | (simp; done) | (simp; omega) | omega) _ | with_reducible refine Below.drew ?_ | with_reducible refine below_drewN ?_ _))⟩
def sq3 (x y z : Int) : Int := x * x + y * y + z * z
theorem sq3_bd {x y z : Int} (a1 : -2000000 ≤ x) (a2 : x ≤ 2000000) (a3 : -2000000 ≤ y) (a4 : y ≤ 2000000) (a5 : -2000000 ≤ z) (a6 : z ≤ 2000000) : (0 ≤ x * x ∧ x * x ≤ 4000000000000) ∧ (0 ≤ y * y ∧ y * y ≤ 4000000000000) ∧ (0 ≤ z * z ∧ z * z ≤ 4000000000000) :=
  ⟨⟨sq_nn x, by have := sq_bd a1 a2; omega⟩, ⟨sq_nn y, by have := sq_bd a3 a4; omega⟩, ⟨sq_nn z, by have := sq_bd a5 a6; omega⟩⟩
set_option maxRecDepth 100000 in
set_option maxHeartbeats 800000 in
theorem bdot_any (x y z : Int) (a1 : -2000000 ≤ x) (a2 : x ≤ 2000000) (a3 : -2000000 ≤ y) (a4 : y ≤ 2000000) (a5 : -2000000 ≤ z) (a6 : z ≤ 2000000) (w : World) :
    Calls Tryz.prog 125 #[.agg #[.int .i64 x, .int .i64 y, .int .i64 z], .agg #[.int .i64 x, .int .i64 y, .int .i64 z]] w fun e w' => e = .returned (.int .i64 (sq3 x y z)) ∧ Below w.heap.size w w' := by
  obtain ⟨⟨p1, p2⟩, ⟨p3, p4⟩, ⟨p5, p6⟩⟩ := sq3_bd a1 a2 a3 a4 a5 a6
  have u1 : IntKind.i64.wrap (x * x) = x * x := IntWalk.i64_in _ (by omega)
  have u2 : IntKind.i64.wrap (y * y) = y * y := IntWalk.i64_in _ (by omega)
  have u3 : IntKind.i64.wrap (z * z) = z * z := IntWalk.i64_in _ (by omega)
  have u4 : IntKind.i64.wrap (x * x + y * y) = x * x + y * y := IntWalk.i64_in _ (by omega)
  have u5 : IntKind.i64.wrap (x * x + y * y + z * z) = x * x + y * y + z * z := IntWalk.i64_in _ (by omega)
  clear p1 p2 p3 p4 p5 p6
  go_enter Tryz.func125, Tryz.ntmps125
  go_wp2_with fail
  go_ret
  exact ⟨rfl, by (repeat (first | with_reducible exact Below.refl _ _ | with_reducible assumption | with_reducible refine Below.alloc ?_ (by first | (simp; done) | (simp; omega) | omega) _ | with_reducible refine Below.setCell ?_ (by first | (simp; done) | (simp; omega) | omega) _ | with_reducible refine Below.drew ?_ | with_reducible refine below_drewN ?_ _))⟩
set_option maxRecDepth 100000 in
set_option maxHeartbeats 800000 in
theorem bsquare_any (x y z : Int) (a1 : -2000000 ≤ x) (a2 : x ≤ 2000000) (a3 : -2000000 ≤ y) (a4 : y ≤ 2000000) (a5 : -2000000 ≤ z) (a6 : z ≤ 2000000) (w : World) :
    Calls Tryz.prog 122 #[.agg #[.int .i64 x, .int .i64 y, .int .i64 z]] w fun e w' => e = .returned (.int .i64 (sq3 x y z)) ∧ Below w.heap.size w w' := by
  go_enter Tryz.func122, Tryz.ntmps122
  go_wp2_with (go_at_call 125; (with_reducible refine Calls.mono (bdot_any x y z a1 a2 a3 a4 a5 a6 _) ?_); rintro e w1 ⟨rfl, hb1⟩; have B1 := thenB (show Below w.heap.size w _ by (repeat (first | with_reducible exact Below.refl _ _ | with_reducible assumption | with_reducible refine Below.alloc ?_ (by first | (simp; done) | (simp; omega) | omega) _ | with_reducible refine Below.setCell ?_ (by first | (simp; done) | (simp; omega) | omega) _ | with_reducible refine Below.drew ?_ | with_reducible refine below_drewN ?_ _))) hb1)
  go_ret
  exact ⟨rfl, B1⟩
theorem psum_sq3 (x y z x0 y0 z0 : Int) : psum x y z x0 y0 z0 3 = 4 * sq3 (x - x0) (y - y0) (z - z0) := by
  simp only [psum, sq3, show (0 : Int) < 3 by decide, show (1 : Int) < 3 by decide, show (2 : Int) < 3 by decide, if_true]
  generalize x - x0 = a
  generalize y - y0 = b
  generalize z - z0 = c
  rw [show 2 * a * (2 * a) = 4 * (a * a) by rw [Int.mul_assoc, Int.mul_left_comm a 2 a, ← Int.mul_assoc]; rfl, show 2 * b * (2 * b) = 4 * (b * b) by rw [Int.mul_assoc, Int.mul_left_comm b 2 b, ← Int.mul_assoc]; rfl, show 2 * c * (2 * c) = 4 * (c * c) by rw [Int.mul_assoc, Int.mul_left_comm c 2 c, ← Int.mul_assoc]; rfl]
  omega
end Go.Proofs.YtjncjoaohonmjaaGreat
