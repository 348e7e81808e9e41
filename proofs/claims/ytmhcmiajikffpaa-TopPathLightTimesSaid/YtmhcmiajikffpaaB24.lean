/- Helpers: the two examples that TopPathLightTimes asks first. -/
import Derived.Test.YtmhcmiajikffpaaB15
import Derived.Test.YtmhcmiajikffpaaB22
import Derived.Test.YtmhcmiajikffpaaB09
import Derived.Test.YtmhcmiajikffpaaB23
import Derived.Test.YtmhcmiajikffpaaB21
import Derived.Test.YtmhcmiajikffpaaB17
namespace Go.Proofs.Ytmhcmiajikffpaa
open Go.RowKit Go.Shelf Go.Sort
attribute [local go_sem] idx3_0 idx3_1 idx3_2 old1 fro1 old2 fro2 old3 fro3 old4 fro4 old5 fro5 old6 fro6 old7 fro7 old8 fro8 old9 fro9 old10 fro10 old11 fro11 old12 fro12
set_option maxRecDepth 100000 in
set_option maxHeartbeats 2000000 in
theorem pathAwake_any (w : World) : Calls Try.prog 27 #[] w fun e w' => e = .returned (.bool true) ∧ Below w.heap.size w w' := by
  go_enter Try.func27, Try.ntmps27
  go_wp2_with (first
    | (go_at_call 32; (with_reducible refine Calls.mono (station_any _) ?_); rintro e w1 ⟨b1, rfl, t1, hb1⟩; have B := thenB (show Below w.heap.size w _ by (repeat (first | with_reducible exact Below.refl _ _ | with_reducible assumption | with_reducible refine Below.alloc ?_ (by first | (simp; done) | (simp; omega) | omega) _ | with_reducible refine Below.setCell ?_ (by first | (simp; done) | (simp; omega) | omega) _ | with_reducible refine Below.drew ?_ | with_reducible refine below_drewN ?_ _))) hb1; have Bz := B.size)
    | (go_at_call 33; (with_reducible refine Calls.mono (probe_any _) ?_); rintro e w2 ⟨b2, rfl, t2, hb2⟩; have t3 := t1.below hb2; have B := thenB (show Below w.heap.size w _ by (repeat (first | with_reducible exact Below.refl _ _ | with_reducible assumption | with_reducible refine Below.alloc ?_ (by first | (simp; done) | (simp; omega) | omega) _ | with_reducible refine Below.setCell ?_ (by first | (simp; done) | (simp; omega) | omega) _ | with_reducible refine Below.drew ?_ | with_reducible refine below_drewN ?_ _))) hb2; have Bz := B.size)
    | (go_at_call 15; (with_reducible refine Calls.mono (ex1 _ _ _ t3 t2) ?_); rintro e w3 ⟨rfl, hb3⟩; have B := thenB (show Below w.heap.size w _ by (repeat (first | with_reducible exact Below.refl _ _ | with_reducible assumption | with_reducible refine Below.alloc ?_ (by first | (simp; done) | (simp; omega) | omega) _ | with_reducible refine Below.setCell ?_ (by first | (simp; done) | (simp; omega) | omega) _ | with_reducible refine Below.drew ?_ | with_reducible refine below_drewN ?_ _))) hb3; have Bz := B.size)
    | (go_at_call 30; (with_reducible refine Calls.mono (ex2 _ _ _ t3 t2) ?_); rintro e w4 ⟨rfl, hb4⟩; have d0 := keep hb4 (keep hb2 (keep hb1 (two_new (w := w3)).1)); have d1 := keep hb4 (keep hb2 (keep hb1 (two_new (w := w3)).2)); have B := thenB (show Below w.heap.size w _ by (repeat (first | with_reducible exact Below.refl _ _ | with_reducible assumption | with_reducible refine Below.alloc ?_ (by first | (simp; done) | (simp; omega) | omega) _ | with_reducible refine Below.setCell ?_ (by first | (simp; done) | (simp; omega) | omega) _ | with_reducible refine Below.drew ?_ | with_reducible refine below_drewN ?_ _))) hb4; have Bz := B.size))
  all_goals
    go_ret
    exact ⟨rfl, by (repeat (first | with_reducible exact Below.refl _ _ | with_reducible assumption | with_reducible refine Below.alloc ?_ (by first | (simp; done) | (simp; omega) | omega) _ | with_reducible refine Below.setCell ?_ (by first | (simp; done) | (simp; omega) | omega) _ | with_reducible refine Below.drew ?_ | with_reducible refine below_drewN ?_ _))⟩
end Go.Proofs.Ytmhcmiajikffpaa
namespace Go.Proofs.Ytmhcmiajikffpaa
open Go.RowKit Go.Shelf Go.Sort
attribute [local go_sem] idx3_0 idx3_1 idx3_2 old1 fro1 old2 fro2 old3 fro3 old4 fro4 old5 fro5 old6 fro6 old7 fro7 old8 fro8 old9 fro9 old10 fro10 old11 fro11 old12 fro12
def Entr (g : Nat) : Prop := ∀ args w, (callFunc g args).run Try.prog w = .ok (.enter g args) w
/-- the value is a closure that answers the error er in each later world, if what it relies on holds -/
def Chk (pre : Prop) (er : Int) (v : Value) (w : World) : Prop := ∃ g cb, v = .func (.func g) #[] cb ∧ Entr g ∧ ∀ w1, Below w.heap.size w w1 → pre → Calls Try.prog g cb w1 fun e w' => e = .returned (.int .i64 er) ∧ Below w1.heap.size w1 w'
/-- .. that answers the Bool b -/
def Cnd (pre : Prop) (b : Bool) (v : Value) (w : World) : Prop := ∃ g cb, v = .func (.func g) #[] cb ∧ Entr g ∧ ∀ w1, Below w.heap.size w w1 → pre → Calls Try.prog g cb w1 fun e w' => e = .returned (.bool b) ∧ Below w1.heap.size w1 w'
theorem Chk.on {pre : Prop} {er : Int} {v : Value} {w w2 : World} (h : Chk pre er v w) (hb : Below w.heap.size w w2) : Chk pre er v w2 := by
  obtain ⟨g, cb, hv, he, hc⟩ := h
  exact ⟨g, cb, hv, he, fun w1 h1 hp => hc w1 (belowT hb h1) hp⟩
theorem Cnd.on {pre : Prop} {b : Bool} {v : Value} {w w2 : World} (h : Cnd pre b v w) (hb : Below w.heap.size w w2) : Cnd pre b v w2 := by
  obtain ⟨g, cb, hv, he, hc⟩ := h
  exact ⟨g, cb, hv, he, fun w1 h1 hp => hc w1 (belowT hb h1) hp⟩
theorem Chk.imp {pre pre' : Prop} {er : Int} {v : Value} {w : World} (h : Chk pre er v w) (hp : pre' → pre) : Chk pre' er v w := by
  obtain ⟨g, cb, hv, he, hc⟩ := h
  exact ⟨g, cb, hv, he, fun w1 h1 h2 => hc w1 h1 (hp h2)⟩
def Chks (n : Nat) (er : Nat → Int) (v : Value) (w : World) : Prop := ∃ L, v = .slice (some ⟨L, 0, none⟩) n n ∧ ∃ F : Nat → Value, (∀ i, i < n → w.cell? ⟨L, 0 + i, none⟩ = some (F i)) ∧ ∀ i, i < n → Chk (∀ j, j < i → er j = 0) (er i) (F i) w
theorem Chks.on {n : Nat} {er : Nat → Int} {v : Value} {w w2 : World} (h : Chks n er v w) (hb : Below w.heap.size w w2) : Chks n er v w2 := by
  obtain ⟨L, hv, F, hF, hC⟩ := h
  exact ⟨L, hv, F, fun i hi => keep hb (hF i hi), fun i hi => (hC i hi).on hb⟩
theorem first_chks {n : Nat} {er : Nat → Int} {v : Value} {w : World} (hn : n ≤ 100) (h0 : 0 < n) (h : Chks n er v w) :
    Calls Try.prog 38 #[v] w fun e w' => e = .returned (.int .i64 (ferr er 0 n)) ∧ Below w.heap.size w w' := by
  obtain ⟨L, rfl, F, hF, hC⟩ := h
  have h1 : ∀ i, ∃ q : Nat × Array Value, i < n → F i = .func (.func q.1) #[] q.2 ∧ Entr q.1 ∧ ∀ w1, Below w.heap.size w w1 → (∀ j, j < i → er j = 0) → Calls Try.prog q.1 q.2 w1 fun e w' => e = .returned (.int .i64 (er i)) ∧ Below w1.heap.size w1 w' := by
    intro i
    by_cases hi : i < n
    · obtain ⟨g, cb, hv⟩ := hC i hi
      exact ⟨(g, cb), fun _ => hv⟩
    · exact ⟨(0, #[]), fun h => absurd h hi⟩
  obtain ⟨q, hq⟩ := Classical.skolem.1 h1
  exact firstError_any L n (fun i => (q i).1) (fun i => (q i).2) er w hn (lt_of (hF 0 h0)) (fun i hi => by rw [hF i hi, (hq i hi).1]) (fun i hi => (hq i hi).2.1) (fun i w1 hi hz hb => (hq i hi).2.2 w1 hb hz)
def Two (A B : TV) (v : Value) (w : World) : Prop := ∃ b, v = .slice (some ⟨b, 0, none⟩) 2 2 ∧ w.cell? ⟨b, 0, none⟩ = some (.slice A.a A.n A.c) ∧ w.cell? ⟨b, 1, none⟩ = some (.int .i64 A.d) ∧ w.cell? ⟨b, 2, none⟩ = some (.slice B.a B.n B.c) ∧ w.cell? ⟨b, 3, none⟩ = some (.int .i64 B.d)
theorem Two.on {A B : TV} {v : Value} {w w2 : World} (h : Two A B v w) (hb : Below w.heap.size w w2) : Two A B v w2 := by
  obtain ⟨b, hv, h0, h1, h2, h3⟩ := h
  exact ⟨b, hv, keep hb h0, keep hb h1, keep hb h2, keep hb h3⟩
def mpChk (pre : Prop) (er : Int) : MP := ⟨Chk pre er, fun _ _ _ h hb => h.on hb⟩
def mpCnd (pre : Prop) (b : Bool) : MP := ⟨Cnd pre b, fun _ _ _ h hb => h.on hb⟩
def mpChks (n : Nat) (er : Nat → Int) : MP := ⟨Chks n er, fun _ _ _ h hb => h.on hb⟩
def mpTwo (A B : TV) : MP := ⟨Two A B, fun _ _ _ h hb => h.on hb⟩
def TV.v (A : TV) : Value := .agg #[.slice A.a A.n A.c, .int .i64 A.d]
theorem trackCheck_chk (A : TV) (w : World) (hA : A.At w) :
    Calls Try.prog 39 #[.agg #[.slice A.a A.n A.c, .int .i64 A.d]] w fun e w' => ∃ v, e = .returned v ∧ Below w.heap.size w w' ∧ Chk True A.err v w' := by
  refine (trackCheck_any A.a A.n A.c A.d w).mono ?_
  rintro e w' ⟨rfl, rfl⟩
  have hb : Below w.heap.size w (w.alloc (.cells #[.slice A.a A.n A.c, .int .i64 A.d] 24)) := (Below.refl _ _).alloc (Nat.le_refl _) _
  exact ⟨_, rfl, hb, _, _, rfl, (enters_of Try.func64 (by kernel_rfl) rfl), fun w1 h1 _ => trackCheck1_any A.a A.n A.c w.heap.size A.d w1 A.k hA.2 (hA.below (belowT hb h1)).1 (keep h1 (by simp [go_sem])) (keep h1 (by simp [go_sem]))⟩
theorem tc_item (A B : TV) (time : Int) (q1 q2 s t TB : Nat) (W w1 : World) (hb : Below W.heap.size W w1) (hA : A.At W) (hB : B.At W) (hA0 : A.err = 0) (hB0 : B.err = 0)
    (c0 : W.cell? ⟨q1, 0, none⟩ = some (.func (.func 66) #[] #[.pointer (some ⟨s, 0, none⟩), .pointer (some ⟨t, 0, none⟩)])) (c1 : W.cell? ⟨q2, 0, none⟩ = some (.int .i64 2))
    (s0 : W.cell? ⟨s, 0, none⟩ = some (.slice (some ⟨TB, 0, none⟩) 2 2)) (t0 : W.cell? ⟨t, 0, none⟩ = some (.int .i64 time))
    (e0 : W.cell? ⟨TB, 0, none⟩ = some (.slice A.a A.n A.c)) (e1 : W.cell? ⟨TB, 1, none⟩ = some (.int .i64 A.d)) (e2 : W.cell? ⟨TB, 2, none⟩ = some (.slice B.a B.n B.c)) (e3 : W.cell? ⟨TB, 3, none⟩ = some (.int .i64 B.d)) :
    Calls Try.prog 79 #[.pointer (some ⟨q1, 0, none⟩), .pointer (some ⟨q2, 0, none⟩)] w1 fun e w' => e = .returned (.int .i64 (timesErr A B time)) ∧ Below w1.heap.size w1 w' := by
  obtain ⟨ba, oa, ea, ha⟩ := TV.valid (hA.below hb) hA0
  obtain ⟨bb, ob, eb, hbb⟩ := TV.valid (hB.below hb) hB0
  rw [ea] at e0
  rw [eb] at e2
  have hc := timeCheck1_any 2 TB s t (fun i => if i = 0 then ⟨ba, oa, A.n, A.c, A.k, A.d⟩ else ⟨bb, ob, B.n, B.c, B.k, B.d⟩) time w1 (by omega) (keep hb s0) (keep hb t0) (lt_of (keep hb e0)) (lt_of (keep hb t0))
    (fun i hi => by
      rcases (by omega : i = 0 ∨ i = 1) with rfl | rfl
      · exact ⟨keep hb e0, keep hb e1⟩
      · exact ⟨keep hb e2, keep hb e3⟩)
    (fun i hi => by
      rcases (by omega : i = 0 ∨ i = 1) with rfl | rfl
      · exact ha
      · exact hbb)
  have hreq := require1_any q1 q2 66 #[.pointer (some ⟨s, 0, none⟩), .pointer (some ⟨t, 0, none⟩)] 2 _ w1 (keep hb c0) (keep hb c1) (lt_of (keep hb c1)) (enters_of Try.func66 (by kernel_rfl) rfl) hc
  refine hreq.mono ?_
  rintro e w' ⟨rfl, hw⟩
  refine ⟨ret_int ?_, hw⟩
  simp only [timesErr]
  simp [List.range, List.range.loop]
  cases outside time A.k A.n <;> cases outside time B.k B.n <;> simp
theorem timeCheck_chk (A B : TV) (time : Int) (v : Value) (w : World) (hA : A.At w) (hB : B.At w) (h : Two A B v w) :
    Calls Try.prog 40 #[.int .i64 time, v] w fun e w' => ∃ v', e = .returned v' ∧ Below w.heap.size w w' ∧ Chk (A.err = 0 ∧ B.err = 0) (timesErr A B time) v' w' := by
  obtain ⟨b, rfl, e0, e1, e2, e3⟩ := h
  refine (timeCheck_any time _ _ _ _ rfl w).mono ?_
  rintro e w' ⟨rfl, rfl⟩
  have hb : Below w.heap.size w ((((w.alloc (.cells #[.int .i64 time] 3)).alloc (.cells #[.slice (some ⟨b, 0, none⟩) 2 2] 112)).alloc (.cells #[.int .i64 2] 37)).alloc (.cells #[.func (.func 66) #[] #[.pointer (some ⟨w.heap.size + 1, 0, none⟩), .pointer (some ⟨w.heap.size, 0, none⟩)]] 26)) := by (repeat (first | with_reducible exact Below.refl _ _ | with_reducible assumption | with_reducible refine Below.alloc ?_ (by first | (simp; done) | (simp; omega) | omega) _ | with_reducible refine Below.setCell ?_ (by first | (simp; done) | (simp; omega) | omega) _ | with_reducible refine Below.drew ?_ | with_reducible refine below_drewN ?_ _))
  have k0 := keep hb e0
  have k1 := keep hb e1
  have k2 := keep hb e2
  have k3 := keep hb e3
  exact ⟨_, rfl, hb, _, _, rfl, (enters_of Try.func79 (by kernel_rfl) rfl), fun w1 h1 hp => tc_item A B time (w.heap.size + 1 + 1 + 1) (w.heap.size + 1 + 1) (w.heap.size + 1) w.heap.size b _ w1 h1 (hA.below hb) (hB.below hb) hp.1 hp.2 (by simp [go_sem]) (by simp [go_sem]) (by simp [go_sem]) (by simp [go_sem]) k0 k1 k2 k3⟩
theorem require_chk {pre : Prop} {b : Bool} (er : Int) (v : Value) (w : World) (h : Cnd pre b v w) :
    Calls Try.prog 47 #[.int .i64 er, v] w fun e w' => ∃ v', e = .returned v' ∧ Below w.heap.size w w' ∧ Chk pre (if b then 0 else er) v' w' := by
  obtain ⟨g, cb, rfl, he, hc⟩ := h
  refine (require_any er g cb w).mono ?_
  rintro e w' ⟨rfl, rfl⟩
  have hb : Below w.heap.size w ((w.alloc (.cells #[.int .i64 er] 37)).alloc (.cells #[.func (.func g) #[] cb] 26)) := by (repeat (first | with_reducible exact Below.refl _ _ | with_reducible assumption | with_reducible refine Below.alloc ?_ (by first | (simp; done) | (simp; omega) | omega) _ | with_reducible refine Below.setCell ?_ (by first | (simp; done) | (simp; omega) | omega) _ | with_reducible refine Below.drew ?_ | with_reducible refine below_drewN ?_ _))
  exact ⟨_, rfl, hb, _, _, rfl, (enters_of Try.func79 (by kernel_rfl) rfl), fun w1 h1 hp => require1_any (w.heap.size + 1) w.heap.size g cb er b w1 (keep h1 (by simp [go_sem])) (keep h1 (by simp [go_sem])) (lt_of (keep h1 (b := w.heap.size) (o := 0) (v := .int .i64 er) (by simp [go_sem]))) he (hc w1 (belowT hb h1) hp)⟩
end Go.Proofs.Ytmhcmiajikffpaa
namespace Go.Proofs.Ytmhcmiajikffpaa
open Go.RowKit Go.Shelf Go.Sort
attribute [local go_sem] idx3_0 idx3_1 idx3_2 old1 fro1 old2 fro2 old3 fro3 old4 fro4 old5 fro5 old6 fro6 old7 fro7 old8 fro8 old9 fro9 old10 fro10 old11 fro11 old12 fro12
def mpCp (n : Nat) (d : Int) (k : Nat → Knot) : MP := ⟨fun v w => ∃ X c, v = .agg #[.slice X n c, .int .i64 d] ∧ KA w X n k, fun _ _ _ ⟨X, c, hv, hk⟩ hb => ⟨X, c, hv, hk.bel hb⟩⟩
/-- a new variable of two numbers, in a block from B on -/
def mpNew (B : Nat) : MP := ⟨fun v w => ∃ q, v = .pointer (some ⟨q, 0, none⟩) ∧ B ≤ q ∧ w.cell? ⟨q, 0, none⟩ = some (.int .i64 0) ∧ w.cell? ⟨q, 1, none⟩ = some (.int .i64 0) ∧ w.frozen? ⟨q, 0, none⟩ = false ∧ w.frozen? ⟨q, 1, none⟩ = false,
  fun _ _ _ ⟨q, hv, hB, h0, h1, f0, f1⟩ hb => ⟨q, hv, hB, keep hb h0, keep hb h1, (hb.frozen (p := ⟨q, 0, none⟩) (lt_of h0)).trans f0, (hb.frozen (p := ⟨q, 1, none⟩) (lt_of h1)).trans f1⟩⟩
def mpVar (B : Nat) (x y : Int) : MP := ⟨fun v w => ∃ q, v = .pointer (some ⟨q, 0, none⟩) ∧ B ≤ q ∧ w.cell? ⟨q, 0, none⟩ = some (.int .i64 x) ∧ w.cell? ⟨q, 1, none⟩ = some (.int .i64 y) ∧ w.frozen? ⟨q, 0, none⟩ = false ∧ w.frozen? ⟨q, 1, none⟩ = false,
  fun _ _ _ ⟨q, hv, hB, h0, h1, f0, f1⟩ hb => ⟨q, hv, hB, keep hb h0, keep hb h1, (hb.frozen (p := ⟨q, 0, none⟩) (lt_of h0)).trans f0, (hb.frozen (p := ⟨q, 1, none⟩) (lt_of h1)).trans f1⟩⟩
end Go.Proofs.Ytmhcmiajikffpaa
