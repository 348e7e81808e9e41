/- Helpers: SentAt, by its numbers (the first time at which a signal need not arrive, the first at which it surely does not). -/
import Derived.Test.YtnfoagcpgegldaaGreatB18
import Derived.Test.YtnfoagcpgegldaaGreatB15
import Derived.Test.YtnfoagcpgegldaaGreatB29
namespace Go.Proofs.YtnfoagcpgegldaaGreat
open Go.RowKit Go.Shelf Go.Sort
attribute [local go_sem] idx3_0 idx3_1 idx3_2 old1 fro1 old2 fro2 old3 fro3 old4 fro4 old5 fro5 old6 fro6 old7 fro7 old8 fro8 old9 fro9 old10 fro10 old11 fro11 old12 fro12
def firstT (A : Trk) : Int := (A.k 0).t
def snD (A B : Trk) (r : Int) : Int := fstI (fun s => !arrB A B s r) (firstT A) (r + 1 - firstT A).toNat
def snL (A B : Trk) (r : Int) : Int := fstI (fun s => awayB A B s r) (snD A B r) (r + 1 - snD A B r).toNat
theorem TIn.back {A : Trk} {s r : Int} (h : TIn A r) (h1 : firstT A ≤ s) (h2 : s ≤ r) : TIn A s := ⟨h.1, inside_mk h1 (by have := h.last; unfold lastT at this; omega)⟩
theorem snD_RL {A B : Trk} {r : Int} (hA : TIn A r) : RL (fun s => !arrB A B s r) (firstT A) r (snD A B r) := by
  have := fstI_RL (fun s => !arrB A B s r) (r + 1 - firstT A).toNat (firstT A)
  have h : firstT A ≤ r := hA.first
  rwa [show firstT A + ((r + 1 - firstT A).toNat : Int) - 1 = r by omega] at this
theorem d_same {A B : Trk} {r x : Int} (hA : TIn A r) (hB : TIn B r) (h : RL (fun s => !arrB A B s r) (firstT A) r x) : x = snD A B r :=
  RL_one (fun x y q0 q1 q2 q => by
    rw [Bool.not_eq_true'] at q ⊢
    cases hy : arrB A B y r
    · rfl
    · have := arr_down hB q2 (hA.back q0 (by omega)) (hA.back (by omega) q2) q1 hy
      rw [q] at this; cases this) h (snD_RL hA)
theorem snL_RL {A B : Trk} {r : Int} (hA : TIn A r) : RL (fun s => awayB A B s r) (snD A B r) r (snL A B r) := by
  have := fstI_RL (fun s => awayB A B s r) (r + 1 - snD A B r).toNat (snD A B r)
  have h := (snD_RL (B := B) hA).2.1
  rwa [show snD A B r + ((r + 1 - snD A B r).toNat : Int) - 1 = r by omega] at this
theorem l_same {A B : Trk} {r x : Int} (hA : TIn A r) (hB : TIn B r) (h : RL (fun s => awayB A B s r) (snD A B r) r x) : x = snL A B r :=
  RL_one (fun x y q0 q1 q2 q => by
    have f := (snD_RL (B := B) hA).1
    show awayB A B y r = true
    cases hy : awayB A B y r
    · have := away_down hB q2 (hA.back (by omega) (by omega)) (hA.back (by omega) q2) q1 hy
      change awayB A B x r = true at q
      rw [q] at this; cases this
    · rfl) h (snL_RL hA)
/-- What surely has arrived may have. -/
theorem arr_not_away {A B : Trk} {s r : Int} (hA : TIn A s) (hB : TIn B r) (h : arrB A B s r = true) : awayB A B s r = false := by
  rw [arr_iff] at h
  rw [away_iff]
  have hd : 0 ≤ vd A.d B.d (A.p s) (B.p r) := Int.mul_nonneg (by have := hA.d0; have := hB.d0; omega) (Int.mul_nonneg (by have := hA.n1; omega) (by have := hB.n1; omega))
  refine Int.le_trans ?_ h
  unfold sqN sqF
  exact Int.le_trans (nsum_nr_le hd) (le_nsum_fr hd)
theorem lo_is {A B : Trk} {r x : Int} (hA : TIn A r) (hB : TIn B r) (h1 : firstT A ≤ x) (h2 : x ≤ r) (h3 : arrB A B x r = true) (h4 : x = r ∨ arrB A B (x + 1) r = false) : x = snD A B r - 1 := by
  have : x + 1 = snD A B r := d_same hA hB ⟨by omega, by omega, .inr (by show (!arrB A B (x + 1 - 1) r) = false; rw [Int.add_sub_cancel, h3]; rfl), by
    rcases h4 with h | h
    · left; omega
    · right; show (!arrB A B (x + 1) r) = true; rw [h]; rfl⟩
  omega
theorem hi_is {A B : Trk} {r x : Int} (hA : TIn A r) (hB : TIn B r) (hD : firstT A < snD A B r) (h1 : snD A B r - 1 ≤ x) (h2 : x ≤ r) (h3 : x = snD A B r - 1 ∨ awayB A B (x - 1) r = false) (h4 : x = r ∨ awayB A B x r = true) : x = min r (snL A B r) := by
  obtain ⟨d1, d2, d3, d4⟩ := snD_RL (B := B) hA
  have ha : arrB A B (snD A B r - 1) r = true := by
    rcases d3 with h | h
    · omega
    · simpa using h
  have hw := arr_not_away (hA.back (by omega) (by omega)) hB ha
  by_cases hx : x = snD A B r - 1
  · have xr : x = r := by
      rcases h4 with h | h
      · exact h
      · rw [hx, hw] at h; cases h
    have : snL A B r = r + 1 := (l_same hA hB (x := r + 1) ⟨by omega, by omega, .inl (by omega), .inl rfl⟩).symm
    omega
  · have h3' : awayB A B (x - 1) r = false := by
      rcases h3 with h | h
      · exact absurd h hx
      · exact h
    cases hax : awayB A B x r
    · have xr : x = r := by
        rcases h4 with h | h
        · exact h
        · rw [hax] at h; cases h
      have : snL A B r = r + 1 := (l_same hA hB (x := r + 1) ⟨by omega, by omega, .inr (by show awayB A B (r + 1 - 1) r = false; rw [Int.add_sub_cancel, ← xr]; rw [xr] at hax ⊢; exact hax), .inl rfl⟩).symm
      omega
    · have : x = snL A B r := l_same hA hB ⟨by omega, by omega, .inr h3', .inr hax⟩
      omega
theorem sn_none {A B : Trk} {r : Int} (hA : TIn A r) (hB : TIn B r) (h : arrB A B (firstT A) r = false) : snD A B r = firstT A :=
  (d_same hA hB ⟨Int.le_refl _, by have : firstT A ≤ r := hA.first; omega, .inl rfl, .inr (by show (!arrB A B (firstT A) r) = true; rw [h]; rfl)⟩).symm
theorem sn_some {A B : Trk} {r : Int} (hA : TIn A r) (h : arrB A B (firstT A) r = true) : firstT A < snD A B r := by
  obtain ⟨d1, d2, d3, d4⟩ := snD_RL (B := B) hA
  rcases Int.lt_or_le (firstT A) (snD A B r) with q | q
  · exact q
  · have e : snD A B r = firstT A := by omega
    rcases d4 with z | z
    · have : firstT A ≤ r := hA.first; omega
    · rw [e] at z
      change (!arrB A B (firstT A) r) = true at z
      rw [h] at z; cases z
def stE (A B : TV) (r : Int) : Int := if distErr A B r = 0 then (if snD A.t B.t r = firstT A.t then 12 else 0) else distErr A B r
def stLo (A B : TV) (r : Int) : Int := if stE A B r = 0 then snD A.t B.t r - 1 else 0
def stHi (A B : TV) (r : Int) : Int := if stE A B r = 0 then min r (snL A.t B.t r) else 0
set_option maxRecDepth 100000 in
set_option maxHeartbeats 800000 in
theorem sentAt1_any (A B : Trk) (s r : Int) (x y z : Nat) (w : World) (hA : VT w A s) (hB : VT w B r) (hsr : s ≤ r) (hr : r - s ≤ 20000000000)
    (x0 : w.cell? ⟨x, 0, none⟩ = some (.slice (some ⟨A.b, A.off, none⟩) A.n A.c)) (x1 : w.cell? ⟨x, 1, none⟩ = some (.int .i64 A.d)) (y0 : w.cell? ⟨y, 0, none⟩ = some (.slice (some ⟨B.b, B.off, none⟩) B.n B.c)) (y1 : w.cell? ⟨y, 1, none⟩ = some (.int .i64 B.d)) (z0 : w.cell? ⟨z, 0, none⟩ = some (.int .i64 r)) :
    Calls Tryz.prog 69 #[.int .i64 s, .pointer (some ⟨x, 0, none⟩), .pointer (some ⟨y, 0, none⟩), .pointer (some ⟨z, 0, none⟩)] w fun e w' => e = .returned (.bool (!arrB A B s r)) ∧ Below w.heap.size w w' := by
  have HC := Lib.hid (surelyArrived_any w A B s r hA hB hsr hr)
  clear hA hB
  generalize arrB A B s r = q at *
  go_enter Tryz.func69, Tryz.ntmps69
  go_wp2_with (go_at_call 65; (with_reducible refine Calls.mono HC.out ?_); rintro e w1 ⟨rfl, hb1⟩)
  go_ret
  exact ⟨rfl, hb1⟩
set_option maxRecDepth 100000 in
set_option maxHeartbeats 800000 in
theorem sentAt2_any (A B : Trk) (s r : Int) (x y z : Nat) (w : World) (hA : VT w A s) (hB : VT w B r) (hsr : s ≤ r) (hr : r - s ≤ 20000000000)
    (x0 : w.cell? ⟨x, 0, none⟩ = some (.slice (some ⟨A.b, A.off, none⟩) A.n A.c)) (x1 : w.cell? ⟨x, 1, none⟩ = some (.int .i64 A.d)) (y0 : w.cell? ⟨y, 0, none⟩ = some (.slice (some ⟨B.b, B.off, none⟩) B.n B.c)) (y1 : w.cell? ⟨y, 1, none⟩ = some (.int .i64 B.d)) (z0 : w.cell? ⟨z, 0, none⟩ = some (.int .i64 r)) :
    Calls Tryz.prog 70 #[.int .i64 s, .pointer (some ⟨x, 0, none⟩), .pointer (some ⟨y, 0, none⟩), .pointer (some ⟨z, 0, none⟩)] w fun e w' => e = .returned (.bool (awayB A B s r)) ∧ Below w.heap.size w w' := by
  have HC := Lib.hid (surelyNotArrived_any w A B s r hA hB hsr hr)
  clear hA hB
  generalize awayB A B s r = q at *
  go_enter Tryz.func70, Tryz.ntmps70
  go_wp2_with (go_at_call 67; (with_reducible refine Calls.mono HC.out ?_); rintro e w1 ⟨rfl, hb1⟩)
  go_ret
  exact ⟨rfl, hb1⟩
theorem VT.back {w w1 : World} {A : Trk} {s r : Int} (h : VT w A r) (hb : Below w.heap.size w w1) (h1 : firstT A ≤ s) (h2 : s ≤ r) : VT w1 A s := ⟨h.1.below hb, TIn.back h.2 h1 h2⟩
theorem leastD (A B : Trk) (r : Int) (x y z : Nat) (w : World) (hA : VT w A r) (hB : VT w B r)
    (x0 : w.cell? ⟨x, 0, none⟩ = some (.slice (some ⟨A.b, A.off, none⟩) A.n A.c)) (x1 : w.cell? ⟨x, 1, none⟩ = some (.int .i64 A.d)) (y0 : w.cell? ⟨y, 0, none⟩ = some (.slice (some ⟨B.b, B.off, none⟩) B.n B.c)) (y1 : w.cell? ⟨y, 1, none⟩ = some (.int .i64 B.d)) (z0 : w.cell? ⟨z, 0, none⟩ = some (.int .i64 r)) :
    Calls Tryz.prog 63 #[.int .i64 (firstT A), .int .i64 r, .func (.func 69) #[] #[.pointer (some ⟨x, 0, none⟩), .pointer (some ⟨y, 0, none⟩), .pointer (some ⟨z, 0, none⟩)]] w (SomeL (fun s => !arrB A B s r) (firstT A) r w) := by
  have f : firstT A ≤ r := TIn.first hA.2
  have t1 := time_bd (TIn.back hA.2 (Int.le_refl _) f)
  have t2 := time_bd hA.2
  refine least_any 69 _ (firstT A) r _ w (enters_of Tryz.func69 (by kernel_rfl) rfl) (by omega) (by omega) (by omega) (fun s w1 h1 h2 hb => ?_)
  have hs := hA.back hb h1 h2
  have sp := span_t hA.2.1 hs.2.2 hA.2.2
  exact sentAt1_any A B s r x y z w1 hs (hB.below hb) h2 (by omega) (keep hb x0) (keep hb x1) (keep hb y0) (keep hb y1) (keep hb z0)
theorem leastS (A B : Trk) (r lo : Int) (x y z : Nat) (w : World) (hA : VT w A r) (hB : VT w B r) (hl : firstT A ≤ lo) (hl2 : lo ≤ r + 1)
    (x0 : w.cell? ⟨x, 0, none⟩ = some (.slice (some ⟨A.b, A.off, none⟩) A.n A.c)) (x1 : w.cell? ⟨x, 1, none⟩ = some (.int .i64 A.d)) (y0 : w.cell? ⟨y, 0, none⟩ = some (.slice (some ⟨B.b, B.off, none⟩) B.n B.c)) (y1 : w.cell? ⟨y, 1, none⟩ = some (.int .i64 B.d)) (z0 : w.cell? ⟨z, 0, none⟩ = some (.int .i64 r)) :
    Calls Tryz.prog 63 #[.int .i64 lo, .int .i64 r, .func (.func 70) #[] #[.pointer (some ⟨x, 0, none⟩), .pointer (some ⟨y, 0, none⟩), .pointer (some ⟨z, 0, none⟩)]] w (SomeL (fun s => awayB A B s r) lo r w) := by
  have f : firstT A ≤ r := TIn.first hA.2
  have t1 := time_bd (TIn.back hA.2 (Int.le_refl _) f)
  have t2 := time_bd hA.2
  refine least_any 70 _ lo r _ w (enters_of Tryz.func70 (by kernel_rfl) rfl) (by omega) (by omega) (by omega) (fun s w1 h1 h2 hb => ?_)
  have hs := hA.back hb (by omega) h2
  have sp := span_t hA.2.1 hs.2.2 hA.2.2
  exact sentAt2_any A B s r x y z w1 hs (hB.below hb) h2 (by omega) (keep hb x0) (keep hb x1) (keep hb y0) (keep hb y1) (keep hb z0)
set_option maxRecDepth 100000 in
set_option maxHeartbeats 4000000 in
theorem sentAt_n (sa sb : Option Addr) (na ca nb cb : Nat) (ka kb : Nat → Knot) (da db time : Int) (w : World) (hA : TV.At ⟨sa, na, ca, ka, da⟩ w) (hB : TV.At ⟨sb, nb, cb, kb, db⟩ w) :
    Calls Tryz.prog 21 #[.agg #[.slice sa na ca, .int .i64 da], .agg #[.slice sb nb cb, .int .i64 db], .int .i64 time] w fun e w' => e = .returned (.tuple #[.agg #[.int .i64 (stLo ⟨sa, na, ca, ka, da⟩ ⟨sb, nb, cb, kb, db⟩ time), .int .i64 (stHi ⟨sa, na, ca, ka, da⟩ ⟨sb, nb, cb, kb, db⟩ time)], .int .i64 (stE ⟨sa, na, ca, ka, da⟩ ⟨sb, nb, cb, kb, db⟩ time)]) ∧ Below w.heap.size w w' := by
  have HA := Lib.hid hA
  have HB := Lib.hid hB
  clear hA hB
  go_enter Tryz.func21, Tryz.ntmps21
  go_wp2_with fail
  go_cut [8] (fun s8 wx => s8 = .int .i64 (distErr ⟨sa, na, ca, ka, da⟩ ⟨sb, nb, cb, kb, db⟩ time) ∧ RA w (w.heap.size + 1 + 1 + 1) sa sb na ca nb cb da db time wx)
  case first =>
    go_region_held3 (fun w' => w'.cell? ⟨w.heap.size, 0, none⟩ = some (.slice sa na ca) ∧ w'.cell? ⟨w.heap.size, 1, none⟩ = some (.int .i64 da) ∧ w'.cell? ⟨w.heap.size + 1, 0, none⟩ = some (.slice sb nb cb) ∧ w'.cell? ⟨w.heap.size + 1, 1, none⟩ = some (.int .i64 db) ∧ w'.cell? ⟨w.heap.size + 1 + 1, 0, none⟩ = some (.int .i64 time)) (simp [go_sem, *])
      (first | (go_at_call 52; (with_reducible refine (trackCheck_any _ _ _ _ _).mono ?_); rintro e w1 ⟨rfl, rfl⟩) | (go_at_call 53; (with_reducible refine (timeCheck_any _ _ _ _ _ rfl _).mono ?_); rintro e w1 ⟨rfl, rfl⟩) | (go_at_call 51; (with_reducible refine Calls.mono (check3_any ⟨sa, na, ca, ka, da⟩ ⟨sb, nb, cb, kb, db⟩ time (w.heap.size + 1 + 1 + 1 + 1 + 1 + 1 + 1 + 1 + 1 + 1 + 1) (w.heap.size + 1 + 1 + 1 + 1) (w.heap.size + 1 + 1 + 1 + 1 + 1) (w.heap.size + 1 + 1 + 1 + 1 + 1 + 1 + 1 + 1 + 1 + 1) (w.heap.size + 1 + 1 + 1 + 1 + 1 + 1 + 1 + 1 + 1) (w.heap.size + 1 + 1 + 1 + 1 + 1 + 1 + 1 + 1) (w.heap.size + 1 + 1 + 1 + 1 + 1 + 1 + 1) (w.heap.size + 1 + 1 + 1 + 1 + 1 + 1) _ ?_ ?_ ?_) ?_); (focus (exact HA.out.below (by (repeat (first | with_reducible exact Below.refl _ _ | with_reducible assumption | with_reducible refine Below.alloc ?_ (by first | (simp; done) | (simp; omega) | omega) _ | with_reducible refine Below.setCell ?_ (by first | (simp; done) | (simp; omega) | omega) _ | with_reducible refine Below.drew ?_ | with_reducible refine below_drewN ?_ _))))); (focus (exact HB.out.below (by (repeat (first | with_reducible exact Below.refl _ _ | with_reducible assumption | with_reducible refine Below.alloc ?_ (by first | (simp; done) | (simp; omega) | omega) _ | with_reducible refine Below.setCell ?_ (by first | (simp; done) | (simp; omega) | omega) _ | with_reducible refine Below.drew ?_ | with_reducible refine below_drewN ?_ _))))); (focus (refine ⟨⟨?_, ?_, ?_⟩, ⟨?_, ?_⟩, ⟨?_, ?_⟩, ⟨?_, ?_⟩, ⟨?_, ?_⟩, ⟨?_, ?_, ?_, ?_⟩⟩ <;> (simp [go_sem, *]; done))); rintro e w1 ⟨rfl, hb1⟩; go_must (have a0 := (hb1.cell (p := ⟨w.heap.size, 0, none⟩) (by first | (simp; done) | (simp; omega) | omega)).trans (show _ = some (Value.slice sa na ca) by simp [go_sem, *])); go_must (have a1 := (hb1.cell (p := ⟨w.heap.size, 1, none⟩) (by first | (simp; done) | (simp; omega) | omega)).trans (show _ = some (Value.int .i64 da) by simp [go_sem, *])); go_must (have b0 := (hb1.cell (p := ⟨w.heap.size + 1, 0, none⟩) (by first | (simp; done) | (simp; omega) | omega)).trans (show _ = some (Value.slice sb nb cb) by simp [go_sem, *])); go_must (have b1 := (hb1.cell (p := ⟨w.heap.size + 1, 1, none⟩) (by first | (simp; done) | (simp; omega) | omega)).trans (show _ = some (Value.int .i64 db) by simp [go_sem, *])); go_must (have t0 := (hb1.cell (p := ⟨w.heap.size + 1 + 1, 0, none⟩) (by first | (simp; done) | (simp; omega) | omega)).trans (show _ = some (Value.int .i64 time) by simp [go_sem, *])); go_must (have r0 := (hb1.cell (p := ⟨w.heap.size + 1 + 1 + 1, 0, none⟩) (by first | (simp; done) | (simp; omega) | omega)).trans (show _ = some (Value.int .i64 0) by simp [go_sem, *])); go_must (have r1 := (hb1.cell (p := ⟨w.heap.size + 1 + 1 + 1, 1, none⟩) (by first | (simp; done) | (simp; omega) | omega)).trans (show _ = some (Value.int .i64 0) by simp [go_sem, *])); go_must (have q0 := (hb1.frozen (p := ⟨w.heap.size + 1 + 1 + 1, 0, none⟩) (by first | (simp; done) | (simp; omega) | omega)).trans (show _ = false by simp [go_sem, *])); go_must (have q1 := (hb1.frozen (p := ⟨w.heap.size + 1 + 1 + 1, 1, none⟩) (by first | (simp; done) | (simp; omega) | omega)).trans (show _ = false by simp [go_sem, *])); go_must (have hB1 := (by (repeat (first | with_reducible exact Below.refl _ _ | with_reducible assumption | with_reducible refine Below.alloc ?_ (by first | (simp; done) | (simp; omega) | omega) _ | with_reducible refine Below.setCell ?_ (by first | (simp; done) | (simp; omega) | omega) _ | with_reducible refine Below.drew ?_ | with_reducible refine below_drewN ?_ _)) : Below w.heap.size w _).trans (hb1.mono (by first | (simp; done) | (simp; omega) | omega))); go_must (clear hb1)) | (go_at_call 51; (with_reducible refine Calls.mono (check3_any ⟨sa, na, ca, ka, da⟩ ⟨sb, nb, cb, kb, db⟩ time (w.heap.size + 1 + 1 + 1 + 1 + 1 + 1 + 1 + 1 + 1 + 1 + 1) (w.heap.size + 1 + 1 + 1 + 1) (w.heap.size + 1 + 1 + 1 + 1 + 1 + 1) (w.heap.size + 1 + 1 + 1 + 1 + 1 + 1 + 1 + 1 + 1 + 1) (w.heap.size + 1 + 1 + 1 + 1 + 1 + 1 + 1 + 1 + 1) (w.heap.size + 1 + 1 + 1 + 1 + 1 + 1 + 1 + 1) (w.heap.size + 1 + 1 + 1 + 1 + 1 + 1 + 1) (w.heap.size + 1 + 1 + 1 + 1 + 1) _ ?_ ?_ ?_) ?_); (focus (exact HA.out.below (by (repeat (first | with_reducible exact Below.refl _ _ | with_reducible assumption | with_reducible refine Below.alloc ?_ (by first | (simp; done) | (simp; omega) | omega) _ | with_reducible refine Below.setCell ?_ (by first | (simp; done) | (simp; omega) | omega) _ | with_reducible refine Below.drew ?_ | with_reducible refine below_drewN ?_ _))))); (focus (exact HB.out.below (by (repeat (first | with_reducible exact Below.refl _ _ | with_reducible assumption | with_reducible refine Below.alloc ?_ (by first | (simp; done) | (simp; omega) | omega) _ | with_reducible refine Below.setCell ?_ (by first | (simp; done) | (simp; omega) | omega) _ | with_reducible refine Below.drew ?_ | with_reducible refine below_drewN ?_ _))))); (focus (refine ⟨⟨?_, ?_, ?_⟩, ⟨?_, ?_⟩, ⟨?_, ?_⟩, ⟨?_, ?_⟩, ⟨?_, ?_⟩, ⟨?_, ?_, ?_, ?_⟩⟩ <;> (simp [go_sem, *]; done))); rintro e w1 ⟨rfl, hb1⟩; go_must (have a0 := (hb1.cell (p := ⟨w.heap.size, 0, none⟩) (by first | (simp; done) | (simp; omega) | omega)).trans (show _ = some (Value.slice sa na ca) by simp [go_sem, *])); go_must (have a1 := (hb1.cell (p := ⟨w.heap.size, 1, none⟩) (by first | (simp; done) | (simp; omega) | omega)).trans (show _ = some (Value.int .i64 da) by simp [go_sem, *])); go_must (have b0 := (hb1.cell (p := ⟨w.heap.size + 1, 0, none⟩) (by first | (simp; done) | (simp; omega) | omega)).trans (show _ = some (Value.slice sb nb cb) by simp [go_sem, *])); go_must (have b1 := (hb1.cell (p := ⟨w.heap.size + 1, 1, none⟩) (by first | (simp; done) | (simp; omega) | omega)).trans (show _ = some (Value.int .i64 db) by simp [go_sem, *])); go_must (have t0 := (hb1.cell (p := ⟨w.heap.size + 1 + 1, 0, none⟩) (by first | (simp; done) | (simp; omega) | omega)).trans (show _ = some (Value.int .i64 time) by simp [go_sem, *])); go_must (have r0 := (hb1.cell (p := ⟨w.heap.size + 1 + 1 + 1, 0, none⟩) (by first | (simp; done) | (simp; omega) | omega)).trans (show _ = some (Value.int .i64 0) by simp [go_sem, *])); go_must (have r1 := (hb1.cell (p := ⟨w.heap.size + 1 + 1 + 1, 1, none⟩) (by first | (simp; done) | (simp; omega) | omega)).trans (show _ = some (Value.int .i64 0) by simp [go_sem, *])); go_must (have q0 := (hb1.frozen (p := ⟨w.heap.size + 1 + 1 + 1, 0, none⟩) (by first | (simp; done) | (simp; omega) | omega)).trans (show _ = false by simp [go_sem, *])); go_must (have q1 := (hb1.frozen (p := ⟨w.heap.size + 1 + 1 + 1, 1, none⟩) (by first | (simp; done) | (simp; omega) | omega)).trans (show _ = false by simp [go_sem, *])); go_must (have hB1 := (by (repeat (first | with_reducible exact Below.refl _ _ | with_reducible assumption | with_reducible refine Below.alloc ?_ (by first | (simp; done) | (simp; omega) | omega) _ | with_reducible refine Below.setCell ?_ (by first | (simp; done) | (simp; omega) | omega) _ | with_reducible refine Below.drew ?_ | with_reducible refine below_drewN ?_ _)) : Below w.heap.size w _).trans (hb1.mono (by first | (simp; done) | (simp; omega) | omega))); go_must (clear hb1)) | (go_at_call 51; (with_reducible refine Calls.mono (check3_any ⟨sa, na, ca, ka, da⟩ ⟨sb, nb, cb, kb, db⟩ time (w.heap.size + 1 + 1 + 1 + 1 + 1 + 1 + 1 + 1 + 1 + 1 + 1) (w.heap.size + 1 + 1 + 1 + 1 + 1) (w.heap.size + 1 + 1 + 1 + 1 + 1 + 1) (w.heap.size + 1 + 1 + 1 + 1 + 1 + 1 + 1 + 1 + 1 + 1) (w.heap.size + 1 + 1 + 1 + 1 + 1 + 1 + 1 + 1 + 1) (w.heap.size + 1 + 1 + 1 + 1 + 1 + 1 + 1 + 1) (w.heap.size + 1 + 1 + 1 + 1 + 1 + 1 + 1) (w.heap.size + 1 + 1 + 1 + 1) _ ?_ ?_ ?_) ?_); (focus (exact HA.out.below (by (repeat (first | with_reducible exact Below.refl _ _ | with_reducible assumption | with_reducible refine Below.alloc ?_ (by first | (simp; done) | (simp; omega) | omega) _ | with_reducible refine Below.setCell ?_ (by first | (simp; done) | (simp; omega) | omega) _ | with_reducible refine Below.drew ?_ | with_reducible refine below_drewN ?_ _))))); (focus (exact HB.out.below (by (repeat (first | with_reducible exact Below.refl _ _ | with_reducible assumption | with_reducible refine Below.alloc ?_ (by first | (simp; done) | (simp; omega) | omega) _ | with_reducible refine Below.setCell ?_ (by first | (simp; done) | (simp; omega) | omega) _ | with_reducible refine Below.drew ?_ | with_reducible refine below_drewN ?_ _))))); (focus (refine ⟨⟨?_, ?_, ?_⟩, ⟨?_, ?_⟩, ⟨?_, ?_⟩, ⟨?_, ?_⟩, ⟨?_, ?_⟩, ⟨?_, ?_, ?_, ?_⟩⟩ <;> (simp [go_sem, *]; done))); rintro e w1 ⟨rfl, hb1⟩; go_must (have a0 := (hb1.cell (p := ⟨w.heap.size, 0, none⟩) (by first | (simp; done) | (simp; omega) | omega)).trans (show _ = some (Value.slice sa na ca) by simp [go_sem, *])); go_must (have a1 := (hb1.cell (p := ⟨w.heap.size, 1, none⟩) (by first | (simp; done) | (simp; omega) | omega)).trans (show _ = some (Value.int .i64 da) by simp [go_sem, *])); go_must (have b0 := (hb1.cell (p := ⟨w.heap.size + 1, 0, none⟩) (by first | (simp; done) | (simp; omega) | omega)).trans (show _ = some (Value.slice sb nb cb) by simp [go_sem, *])); go_must (have b1 := (hb1.cell (p := ⟨w.heap.size + 1, 1, none⟩) (by first | (simp; done) | (simp; omega) | omega)).trans (show _ = some (Value.int .i64 db) by simp [go_sem, *])); go_must (have t0 := (hb1.cell (p := ⟨w.heap.size + 1 + 1, 0, none⟩) (by first | (simp; done) | (simp; omega) | omega)).trans (show _ = some (Value.int .i64 time) by simp [go_sem, *])); go_must (have r0 := (hb1.cell (p := ⟨w.heap.size + 1 + 1 + 1, 0, none⟩) (by first | (simp; done) | (simp; omega) | omega)).trans (show _ = some (Value.int .i64 0) by simp [go_sem, *])); go_must (have r1 := (hb1.cell (p := ⟨w.heap.size + 1 + 1 + 1, 1, none⟩) (by first | (simp; done) | (simp; omega) | omega)).trans (show _ = some (Value.int .i64 0) by simp [go_sem, *])); go_must (have q0 := (hb1.frozen (p := ⟨w.heap.size + 1 + 1 + 1, 0, none⟩) (by first | (simp; done) | (simp; omega) | omega)).trans (show _ = false by simp [go_sem, *])); go_must (have q1 := (hb1.frozen (p := ⟨w.heap.size + 1 + 1 + 1, 1, none⟩) (by first | (simp; done) | (simp; omega) | omega)).trans (show _ = false by simp [go_sem, *])); go_must (have hB1 := (by (repeat (first | with_reducible exact Below.refl _ _ | with_reducible assumption | with_reducible refine Below.alloc ?_ (by first | (simp; done) | (simp; omega) | omega) _ | with_reducible refine Below.setCell ?_ (by first | (simp; done) | (simp; omega) | omega) _ | with_reducible refine Below.drew ?_ | with_reducible refine below_drewN ?_ _)) : Below w.heap.size w _).trans (hb1.mono (by first | (simp; done) | (simp; omega) | omega))); go_must (clear hb1)))
    all_goals
      go_wp2_with fail
      go_meet
      case rel =>
        refine ⟨rfl, ⟨?_, ?_⟩, ⟨?_, ?_⟩, ⟨?_, ?_⟩, ?_, ⟨?_, ?_⟩, ⟨?_, ?_⟩⟩
        all_goals first | omega | (simp [go_sem, *]; done) | (repeat (first | with_reducible exact Below.refl _ _ | with_reducible assumption | with_reducible refine Below.alloc ?_ (by first | (simp; done) | (simp; omega) | omega) _ | with_reducible refine Below.setCell ?_ (by first | (simp; done) | (simp; omega) | omega) _ | with_reducible refine Below.drew ?_ | with_reducible refine below_drewN ?_ _))
  case rest =>
    obtain ⟨rfl, ⟨p1, p2⟩, ⟨a0, a1⟩, ⟨b0, b1⟩, t0, ⟨r0, r1⟩, ⟨q0, q1⟩⟩ := hcut
    have hA0 := HA.out
    have hB0 := HB.out
    by_cases hE : distErr ⟨sa, na, ca, ka, da⟩ ⟨sb, nb, cb, kb, db⟩ time = 0
    · obtain ⟨eA, eB, oA, oB⟩ := distErr_0 hE
      obtain ⟨ba, oa, ea, hta⟩ := TV.valid hA0 eA
      obtain ⟨bb, ob, eb, htb⟩ := TV.valid hB0 eB
      simp only at ea eb
      subst ea eb
      have vA := fun W (hb : Below w.heap.size w W) => (show VT W ⟨ba, oa, na, ca, ka, da⟩ time from ⟨hta.below hb, eA, oA⟩)
      have vB := fun W (hb : Below w.heap.size w W) => (show VT W ⟨bb, ob, nb, cb, kb, db⟩ time from ⟨htb.below hb, eB, oB⟩)
      have tA : TIn (⟨ba, oa, na, ca, ka, da⟩ : Trk) time := ⟨eA, oA⟩
      have tB : TIn (⟨bb, ob, nb, cb, kb, db⟩ : Trk) time := ⟨eB, oB⟩
      have HE := Lib.hid hE
      have hq : (distErr ⟨some ⟨ba, oa, none⟩, na, ca, ka, da⟩ ⟨some ⟨bb, ob, none⟩, nb, cb, kb, db⟩ time != 0) = false := by simp [hE]
      have hnb := valid_of eA
      have hn1 : 0 < na := hnb.1
      have hn2 : na ≤ 100 := (by have h12 : na ≤ 12 := hnb.2.1; omega)
      have f1 : firstT (⟨ba, oa, na, ca, ka, da⟩ : Trk) ≤ time := tA.first
      have t1 := time_bd (TIn.back tA (Int.le_refl _) f1)
      have t2 := time_bd tA
      have hlc0 := ((hta.below p1).2.2.2 0 hn1).1
      have HD := Lib.hid (fun x => d_same (x := x) tA tB)
      have HL := Lib.hid (fun x => l_same (x := x) tA tB)
      have hRL := snD_RL (A := (⟨ba, oa, na, ca, ka, da⟩ : Trk)) (B := (⟨bb, ob, nb, cb, kb, db⟩ : Trk)) tA
      have g1 := hRL.1
      have g2 := hRL.2.1
      have LD := fun W x y z (hb : Below w.heap.size w W) => leastD (⟨ba, oa, na, ca, ka, da⟩ : Trk) (⟨bb, ob, nb, cb, kb, db⟩ : Trk) time x y z W (vA W hb) (vB W hb)
      have LS := fun W x y z (hb : Below w.heap.size w W) => leastS (⟨ba, oa, na, ca, ka, da⟩ : Trk) (⟨bb, ob, nb, cb, kb, db⟩ : Trk) time (snD (⟨ba, oa, na, ca, ka, da⟩ : Trk) (⟨bb, ob, nb, cb, kb, db⟩ : Trk) time) x y z W (vA W hb) (vB W hb) g1 g2
      have VD := Lib.hid LD
      have VS := Lib.hid LS
      have HP : Hid ((stE ⟨some ⟨ba, oa, none⟩, na, ca, ka, da⟩ ⟨some ⟨bb, ob, none⟩, nb, cb, kb, db⟩ time = if snD (⟨ba, oa, na, ca, ka, da⟩ : Trk) (⟨bb, ob, nb, cb, kb, db⟩ : Trk) time = firstT (⟨ba, oa, na, ca, ka, da⟩ : Trk) then 12 else 0) ∧ (stLo ⟨some ⟨ba, oa, none⟩, na, ca, ka, da⟩ ⟨some ⟨bb, ob, none⟩, nb, cb, kb, db⟩ time = if snD (⟨ba, oa, na, ca, ka, da⟩ : Trk) (⟨bb, ob, nb, cb, kb, db⟩ : Trk) time = firstT (⟨ba, oa, na, ca, ka, da⟩ : Trk) then 0 else snD (⟨ba, oa, na, ca, ka, da⟩ : Trk) (⟨bb, ob, nb, cb, kb, db⟩ : Trk) time - 1) ∧ (stHi ⟨some ⟨ba, oa, none⟩, na, ca, ka, da⟩ ⟨some ⟨bb, ob, none⟩, nb, cb, kb, db⟩ time = if snD (⟨ba, oa, na, ca, ka, da⟩ : Trk) (⟨bb, ob, nb, cb, kb, db⟩ : Trk) time = firstT (⟨ba, oa, na, ca, ka, da⟩ : Trk) then 0 else min time (snL (⟨ba, oa, na, ca, ka, da⟩ : Trk) (⟨bb, ob, nb, cb, kb, db⟩ : Trk) time))) := by
        have e : stE ⟨some ⟨ba, oa, none⟩, na, ca, ka, da⟩ ⟨some ⟨bb, ob, none⟩, nb, cb, kb, db⟩ time = if snD (⟨ba, oa, na, ca, ka, da⟩ : Trk) (⟨bb, ob, nb, cb, kb, db⟩ : Trk) time = firstT (⟨ba, oa, na, ca, ka, da⟩ : Trk) then 12 else 0 := by unfold stE; exact if_pos hE
        refine ⟨e, ?_, ?_⟩
        · unfold stLo; rw [e]; by_cases h : snD (⟨ba, oa, na, ca, ka, da⟩ : Trk) (⟨bb, ob, nb, cb, kb, db⟩ : Trk) time = firstT (⟨ba, oa, na, ca, ka, da⟩ : Trk)
          · rw [if_pos h, if_pos h]; rfl
          · rw [if_neg h, if_neg h]; rfl
        · unfold stHi; rw [e]; by_cases h : snD (⟨ba, oa, na, ca, ka, da⟩ : Trk) (⟨bb, ob, nb, cb, kb, db⟩ : Trk) time = firstT (⟨ba, oa, na, ca, ka, da⟩ : Trk)
          · rw [if_pos h, if_pos h]; rfl
          · rw [if_neg h, if_neg h]; rfl
      have hlc : wc.cell? ⟨ba, oa, none⟩ = some (.int .i64 (firstT (⟨ba, oa, na, ca, ka, da⟩ : Trk))) := by rw [show oa + 0 * 4 = oa by omega] at hlc0; exact hlc0
      clear vA vB hE HA HB hA0 hB0 hta htb eA eB oA oB hnb tA tB hRL LD LS hlc0
      generalize distErr ⟨some ⟨ba, oa, none⟩, na, ca, ka, da⟩ ⟨some ⟨bb, ob, none⟩, nb, cb, kb, db⟩ time = E0 at hq
      generalize snD (⟨ba, oa, na, ca, ka, da⟩ : Trk) (⟨bb, ob, nb, cb, kb, db⟩ : Trk) time = D at *
      generalize snL (⟨ba, oa, na, ca, ka, da⟩ : Trk) (⟨bb, ob, nb, cb, kb, db⟩ : Trk) time = L at *
      generalize firstT (⟨ba, oa, na, ca, ka, da⟩ : Trk) = F at *
      have pw := p1.size
      have nR := lt_of r0
      have s1 : IntKind.i64.wrap (D - 1) = D - 1 := IntWalk.i64_in _ (by omega)
      by_cases hDF : D = F
      · have hz : (D == F) = true := by simpa using hDF
        have HDF := Lib.hid hDF
        clear hDF
        go_wp2_with (first | (go_at_call 68; (with_reducible refine (firstTime_any ba oa na ca da F _ hn1 hn2 hlc).mono ?_); rintro e w1 ⟨rfl, o1, rfl⟩) | (go_at_call 63; (with_reducible refine Calls.mono (VD.out _ _ _ _ ?_ ?_ ?_ ?_ ?_ ?_) ?_); (focus (repeat (first | with_reducible exact Below.refl _ _ | with_reducible assumption | with_reducible refine Below.alloc ?_ (by first | (simp; done) | (simp; omega) | omega) _ | with_reducible refine Below.setCell ?_ (by first | (simp; done) | (simp; omega) | omega) _ | with_reducible refine Below.drew ?_ | with_reducible refine below_drewN ?_ _))); (focus (simp [go_sem, *]; done)); (focus (simp [go_sem, *]; done)); (focus (simp [go_sem, *]; done)); (focus (simp [go_sem, *]; done)); (focus (simp [go_sem, *]; done)); rintro e w2 ⟨x1, rfl, hr1, hb1⟩; obtain rfl := HD.out x1 hr1; go_must (have a0_ : w2.cell? ⟨w.heap.size, 0, none⟩ = some (.slice (some ⟨ba, oa, none⟩) na ca) := keep hb1 (by first | exact a0 | (simp [go_sem, *]; done))); go_must (have a1_ : w2.cell? ⟨w.heap.size, 1, none⟩ = some (.int .i64 da) := keep hb1 (by first | exact a1 | (simp [go_sem, *]; done))); go_must (have b0_ : w2.cell? ⟨w.heap.size + 1, 0, none⟩ = some (.slice (some ⟨bb, ob, none⟩) nb cb) := keep hb1 (by first | exact b0 | (simp [go_sem, *]; done))); go_must (have b1_ : w2.cell? ⟨w.heap.size + 1, 1, none⟩ = some (.int .i64 db) := keep hb1 (by first | exact b1 | (simp [go_sem, *]; done))); go_must (have t0_ : w2.cell? ⟨w.heap.size + 1 + 1, 0, none⟩ = some (.int .i64 time) := keep hb1 (by first | exact t0 | (simp [go_sem, *]; done))); go_must (have r0_ : w2.cell? ⟨w.heap.size + 1 + 1 + 1, 0, none⟩ = some (.int .i64 0) := keep hb1 (by first | exact r0 | (simp [go_sem, *]; done))); go_must (have r1_ : w2.cell? ⟨w.heap.size + 1 + 1 + 1, 1, none⟩ = some (.int .i64 0) := keep hb1 (by first | exact r1 | (simp [go_sem, *]; done))); go_must (have q0_ : w2.frozen? ⟨w.heap.size + 1 + 1 + 1, 0, none⟩ = false := (hb1.frozen (p := ⟨w.heap.size + 1 + 1 + 1, 0, none⟩) (by first | (simp; done) | (simp; omega) | omega)).trans (by first | exact q0 | (simp [go_sem, *]; done))); go_must (have q1_ : w2.frozen? ⟨w.heap.size + 1 + 1 + 1, 1, none⟩ = false := (hb1.frozen (p := ⟨w.heap.size + 1 + 1 + 1, 1, none⟩) (by first | (simp; done) | (simp; omega) | omega)).trans (by first | exact q1 | (simp [go_sem, *]; done))); go_must (have p1_ := (by (repeat (first | with_reducible exact Below.refl _ _ | with_reducible assumption | with_reducible refine Below.alloc ?_ (by first | (simp; done) | (simp; omega) | omega) _ | with_reducible refine Below.setCell ?_ (by first | (simp; done) | (simp; omega) | omega) _ | with_reducible refine Below.drew ?_ | with_reducible refine below_drewN ?_ _)) : Below w.heap.size w _).trans (hb1.mono (by first | (simp; done) | (simp; omega) | omega))); go_must (have pw_ := p1_.size); have nR_ := lt_of r0_; clear hb1) | fail)
        refine bodyPost_ret (v := .tuple #[.agg #[.int .i64 0, .int .i64 0], .int .i64 12]) (by simp [results, Tryz.results21, go_sem, r0_, r1_]) rfl ⟨?_, ?_⟩
        · rw [HP.out.1, HP.out.2.1, HP.out.2.2, if_pos HDF.out, if_pos HDF.out, if_pos HDF.out]
        · (repeat (first | with_reducible exact Below.refl _ _ | with_reducible assumption | with_reducible refine Below.alloc ?_ (by first | (simp; done) | (simp; omega) | omega) _ | with_reducible refine Below.setCell ?_ (by first | (simp; done) | (simp; omega) | omega) _ | with_reducible refine Below.drew ?_ | with_reducible refine below_drewN ?_ _))
      · have hz : (D == F) = false := by simpa using hDF
        have HDF := Lib.hid hDF
        clear hDF
        go_wp2_with (first | (go_at_call 68; (with_reducible refine (firstTime_any ba oa na ca da F _ hn1 hn2 hlc).mono ?_); rintro e w1 ⟨rfl, o1, rfl⟩) | (go_at_call 63; (with_reducible refine Calls.mono (VD.out _ _ _ _ ?_ ?_ ?_ ?_ ?_ ?_) ?_); (focus (repeat (first | with_reducible exact Below.refl _ _ | with_reducible assumption | with_reducible refine Below.alloc ?_ (by first | (simp; done) | (simp; omega) | omega) _ | with_reducible refine Below.setCell ?_ (by first | (simp; done) | (simp; omega) | omega) _ | with_reducible refine Below.drew ?_ | with_reducible refine below_drewN ?_ _))); (focus (simp [go_sem, *]; done)); (focus (simp [go_sem, *]; done)); (focus (simp [go_sem, *]; done)); (focus (simp [go_sem, *]; done)); (focus (simp [go_sem, *]; done)); rintro e w2 ⟨x1, rfl, hr1, hb1⟩; obtain rfl := HD.out x1 hr1; go_must (have a0_ : w2.cell? ⟨w.heap.size, 0, none⟩ = some (.slice (some ⟨ba, oa, none⟩) na ca) := keep hb1 (by first | exact a0 | (simp [go_sem, *]; done))); go_must (have a1_ : w2.cell? ⟨w.heap.size, 1, none⟩ = some (.int .i64 da) := keep hb1 (by first | exact a1 | (simp [go_sem, *]; done))); go_must (have b0_ : w2.cell? ⟨w.heap.size + 1, 0, none⟩ = some (.slice (some ⟨bb, ob, none⟩) nb cb) := keep hb1 (by first | exact b0 | (simp [go_sem, *]; done))); go_must (have b1_ : w2.cell? ⟨w.heap.size + 1, 1, none⟩ = some (.int .i64 db) := keep hb1 (by first | exact b1 | (simp [go_sem, *]; done))); go_must (have t0_ : w2.cell? ⟨w.heap.size + 1 + 1, 0, none⟩ = some (.int .i64 time) := keep hb1 (by first | exact t0 | (simp [go_sem, *]; done))); go_must (have r0_ : w2.cell? ⟨w.heap.size + 1 + 1 + 1, 0, none⟩ = some (.int .i64 0) := keep hb1 (by first | exact r0 | (simp [go_sem, *]; done))); go_must (have r1_ : w2.cell? ⟨w.heap.size + 1 + 1 + 1, 1, none⟩ = some (.int .i64 0) := keep hb1 (by first | exact r1 | (simp [go_sem, *]; done))); go_must (have q0_ : w2.frozen? ⟨w.heap.size + 1 + 1 + 1, 0, none⟩ = false := (hb1.frozen (p := ⟨w.heap.size + 1 + 1 + 1, 0, none⟩) (by first | (simp; done) | (simp; omega) | omega)).trans (by first | exact q0 | (simp [go_sem, *]; done))); go_must (have q1_ : w2.frozen? ⟨w.heap.size + 1 + 1 + 1, 1, none⟩ = false := (hb1.frozen (p := ⟨w.heap.size + 1 + 1 + 1, 1, none⟩) (by first | (simp; done) | (simp; omega) | omega)).trans (by first | exact q1 | (simp [go_sem, *]; done))); go_must (have p1_ := (by (repeat (first | with_reducible exact Below.refl _ _ | with_reducible assumption | with_reducible refine Below.alloc ?_ (by first | (simp; done) | (simp; omega) | omega) _ | with_reducible refine Below.setCell ?_ (by first | (simp; done) | (simp; omega) | omega) _ | with_reducible refine Below.drew ?_ | with_reducible refine below_drewN ?_ _)) : Below w.heap.size w _).trans (hb1.mono (by first | (simp; done) | (simp; omega) | omega))); go_must (have pw_ := p1_.size); have nR_ := lt_of r0_; clear hb1) | (go_at_call 63; (with_reducible refine Calls.mono (VS.out _ _ _ _ ?_ ?_ ?_ ?_ ?_ ?_) ?_); (focus (repeat (first | with_reducible exact Below.refl _ _ | with_reducible assumption | with_reducible refine Below.alloc ?_ (by first | (simp; done) | (simp; omega) | omega) _ | with_reducible refine Below.setCell ?_ (by first | (simp; done) | (simp; omega) | omega) _ | with_reducible refine Below.drew ?_ | with_reducible refine below_drewN ?_ _))); (focus (simp [go_sem, *]; done)); (focus (simp [go_sem, *]; done)); (focus (simp [go_sem, *]; done)); (focus (simp [go_sem, *]; done)); (focus (simp [go_sem, *]; done)); rintro e w3 ⟨x2, rfl, hr2, hb1⟩; obtain rfl := HL.out x2 hr2; go_must (have a0__ : w3.cell? ⟨w.heap.size, 0, none⟩ = some (.slice (some ⟨ba, oa, none⟩) na ca) := keep hb1 (by first | exact a0_ | (simp [go_sem, *]; done))); go_must (have a1__ : w3.cell? ⟨w.heap.size, 1, none⟩ = some (.int .i64 da) := keep hb1 (by first | exact a1_ | (simp [go_sem, *]; done))); go_must (have b0__ : w3.cell? ⟨w.heap.size + 1, 0, none⟩ = some (.slice (some ⟨bb, ob, none⟩) nb cb) := keep hb1 (by first | exact b0_ | (simp [go_sem, *]; done))); go_must (have b1__ : w3.cell? ⟨w.heap.size + 1, 1, none⟩ = some (.int .i64 db) := keep hb1 (by first | exact b1_ | (simp [go_sem, *]; done))); go_must (have t0__ : w3.cell? ⟨w.heap.size + 1 + 1, 0, none⟩ = some (.int .i64 time) := keep hb1 (by first | exact t0_ | (simp [go_sem, *]; done))); go_must (have r0__ : w3.cell? ⟨w.heap.size + 1 + 1 + 1, 0, none⟩ = some (.int .i64 0) := keep hb1 (by first | exact r0_ | (simp [go_sem, *]; done))); go_must (have r1__ : w3.cell? ⟨w.heap.size + 1 + 1 + 1, 1, none⟩ = some (.int .i64 0) := keep hb1 (by first | exact r1_ | (simp [go_sem, *]; done))); go_must (have q0__ : w3.frozen? ⟨w.heap.size + 1 + 1 + 1, 0, none⟩ = false := (hb1.frozen (p := ⟨w.heap.size + 1 + 1 + 1, 0, none⟩) (by first | (simp; done) | (simp; omega) | omega)).trans (by first | exact q0_ | (simp [go_sem, *]; done))); go_must (have q1__ : w3.frozen? ⟨w.heap.size + 1 + 1 + 1, 1, none⟩ = false := (hb1.frozen (p := ⟨w.heap.size + 1 + 1 + 1, 1, none⟩) (by first | (simp; done) | (simp; omega) | omega)).trans (by first | exact q1_ | (simp [go_sem, *]; done))); go_must (have p1__ := (by (repeat (first | with_reducible exact Below.refl _ _ | with_reducible assumption | with_reducible refine Below.alloc ?_ (by first | (simp; done) | (simp; omega) | omega) _ | with_reducible refine Below.setCell ?_ (by first | (simp; done) | (simp; omega) | omega) _ | with_reducible refine Below.drew ?_ | with_reducible refine below_drewN ?_ _)) : Below w.heap.size w _).trans (hb1.mono (by first | (simp; done) | (simp; omega) | omega))); go_must (have pw__ := p1__.size); have nR__ := lt_of r0__; clear hb1) | fail)
        refine bodyPost_ret (v := .tuple #[.agg #[.int .i64 (x1 - 1), .int .i64 (min time x2)], .int .i64 0]) (by simp [results, Tryz.results21, go_sem, r0__, r1__]) rfl ⟨?_, ?_⟩
        · rw [HP.out.1, HP.out.2.1, HP.out.2.2, if_neg HDF.out, if_neg HDF.out, if_neg HDF.out]
        · (repeat (first | with_reducible exact Below.refl _ _ | with_reducible assumption | with_reducible refine Below.alloc ?_ (by first | (simp; done) | (simp; omega) | omega) _ | with_reducible refine Below.setCell ?_ (by first | (simp; done) | (simp; omega) | omega) _ | with_reducible refine Below.drew ?_ | with_reducible refine below_drewN ?_ _))
    · have HE := Lib.hid hE
      have hq : (distErr ⟨sa, na, ca, ka, da⟩ ⟨sb, nb, cb, kb, db⟩ time != 0) = true := by simpa using hE
      have HP : Hid ((stE ⟨sa, na, ca, ka, da⟩ ⟨sb, nb, cb, kb, db⟩ time = distErr ⟨sa, na, ca, ka, da⟩ ⟨sb, nb, cb, kb, db⟩ time) ∧ stLo ⟨sa, na, ca, ka, da⟩ ⟨sb, nb, cb, kb, db⟩ time = 0 ∧ stHi ⟨sa, na, ca, ka, da⟩ ⟨sb, nb, cb, kb, db⟩ time = 0) := by
        have e : stE ⟨sa, na, ca, ka, da⟩ ⟨sb, nb, cb, kb, db⟩ time = distErr ⟨sa, na, ca, ka, da⟩ ⟨sb, nb, cb, kb, db⟩ time := by unfold stE; exact if_neg hE
        exact ⟨e, by unfold stLo; rw [e]; exact if_neg hE, by unfold stHi; rw [e]; exact if_neg hE⟩
      clear hE HA HB hA0 hB0
      have pw := p1.size
      go_wp2
      refine bodyPost_ret (v := .tuple #[.agg #[.int .i64 0, .int .i64 0], .int .i64 (distErr ⟨sa, na, ca, ka, da⟩ ⟨sb, nb, cb, kb, db⟩ time)]) (by simp [results, Tryz.results21, go_sem, r0, r1]) rfl ⟨?_, ?_⟩
      · rw [HP.out.1, HP.out.2.1, HP.out.2.2]
      · (repeat (first | with_reducible exact Below.refl _ _ | with_reducible assumption | with_reducible refine Below.alloc ?_ (by first | (simp; done) | (simp; omega) | omega) _ | with_reducible refine Below.setCell ?_ (by first | (simp; done) | (simp; omega) | omega) _ | with_reducible refine Below.drew ?_ | with_reducible refine below_drewN ?_ _))
end Go.Proofs.YtnfoagcpgegldaaGreat
namespace Go.Proofs.YtnfoagcpgegldaaGreat
open Go.RowKit Go.Shelf Go.Sort
theorem rcHi_le {A B : Trk} {s x : Int} (hA : TIn A s) (hB : TIn B s) (h1 : s ≤ x) (h2 : x ≤ lastT B) (h : arrB A B s x = true) : rcHi A B s ≤ x := by
  obtain ⟨a, b, c, d⟩ := rcHi_RL (A := A) hB
  rcases c with c | c
  · omega
  · rcases Int.lt_or_le x (rcHi A B s) with q | q
    · have := arr_mono hA h1 (hB.to h1 h2) (hB.to (r := rcHi A B s - 1) (by omega) (by omega)) (by omega) h
      rw [this] at c; cases c
    · exact q
theorem rc_hi_before {A B : Trk} {s : Int} (hB : TIn B s) (h : s < rcHi A B s) : arrB A B s (rcHi A B s - 1) = false := by
  rcases (rcHi_RL (A := A) hB).2.2.1 with c | c
  · omega
  · exact c
theorem rc_lo_away {A B : Trk} {s : Int} (hB : TIn B s) (h : s < rcLo A B s) : awayB A B s (rcLo A B s) = true := by
  have hp := rcPos_RL (A := A) hB
  have e : rcLo A B s = rcPos A B s - 1 := by unfold rcLo at h ⊢; omega
  rw [e]
  rcases hp.2.2.1 with c | c
  · unfold rcLo at h; omega
  · change (!awayB A B s (rcPos A B s - 1)) = false at c
    simpa using c
theorem rc_lo_next {A B : Trk} {s : Int} (hA : TIn A s) (hB : TIn B s) (hl : rcHi A B s ≤ lastT B) (h : rcLo A B s < lastT B) : awayB A B s (rcLo A B s + 1) = false := by
  have hp := rcPos_RL (A := A) hB
  have h0 := (rcHi_RL (A := A) hB).1
  have ha := arr_not_away hA (hB.to h0 hl) (rc_arr hB hl)
  by_cases hq : rcPos A B s = rcHi A B s + 1
  · rcases hp.2.2.1 with c | c
    · omega
    · change (!awayB A B s (rcPos A B s - 1)) = false at c
      rw [hq, Int.add_sub_cancel, ha] at c
      cases c
  · have h1 := hp.1
    have h2 := hp.2.1
    rcases hp.2.2.2 with d | d
    · exact absurd d hq
    · change (!awayB A B s (rcPos A B s)) = true at d
      have d' : awayB A B s (rcPos A B s) = false := by simpa using d
      have hr : rcPos A B s ≤ rcLo A B s + 1 := by unfold rcLo; omega
      exact away_mono hA h1 (hB.to h1 (by omega)) (hB.to (by omega) (by omega)) hr d'
theorem sn_lo_arr {A B : Trk} {r : Int} (hA : TIn A r) (h : firstT A < snD A B r) : arrB A B (snD A B r - 1) r = true := by
  rcases (snD_RL (B := B) hA).2.2.1 with c | c
  · omega
  · change (!arrB A B (snD A B r - 1) r) = false at c
    simpa using c
theorem sn_next {A B : Trk} {r : Int} (hA : TIn A r) (h : snD A B r - 1 < r) : arrB A B (snD A B r - 1 + 1) r = false := by
  rw [Int.sub_add_cancel]
  rcases (snD_RL (B := B) hA).2.2.2 with d | d
  · omega
  · change (!arrB A B (snD A B r) r) = true at d
    simpa using d
theorem te_or (A B : TV) (s : Int) : timesErr A B s = 0 ∨ timesErr A B s = 2 := by
  unfold timesErr
  split
  · exact .inr rfl
  · exact .inl rfl
theorem te_in {A B : TV} {s : Int} (h1 : outside s A.k A.n = false) (h2 : outside s B.k B.n = false) : timesErr A B s = 0 := by
  unfold timesErr
  rw [h1, h2]
  rfl
theorem rv_ok {A B : TV} {s : Int} (h : rvE A B s = 0) : distErr A B s = 0 ∧ rcHi A.t B.t s ≤ lastT B.t ∧ rvLo A B s = rcLo A.t B.t s ∧ rvHi A B s = rcHi A.t B.t s := by
  have h' := h
  unfold rvE at h
  by_cases hd : distErr A B s = 0
  · rw [if_pos hd] at h
    refine ⟨hd, ?_, by unfold rvLo; rw [if_pos h'], by unfold rvHi; rw [if_pos h']⟩
    by_cases q : lastT B.t < rcHi A.t B.t s
    · rw [if_pos q] at h; omega
    · omega
  · rw [if_neg hd] at h; exact absurd h hd
theorem trip_sound {A B : TV} {s : Int} (h : tripE A B s = 0) : rvE A B s = 0 ∧ rvLo A B s ≤ tripLo A B s ∧ rvHi A B s ≤ tripHi A B s ∧ tripLo A B s ≤ tripHi A B s := by
  have h' := h
  unfold tripE at h
  by_cases e1 : rvE A B s = 0
  · rw [if_pos e1] at h
    by_cases e2 : rvE B A (rvLo A B s) = 0
    · rw [if_pos e2] at h
      obtain ⟨d1, l1, a1, a2⟩ := rv_ok e1
      obtain ⟨d2, l2, b1, b2⟩ := rv_ok e2
      obtain ⟨d3, l3, c1, c2⟩ := rv_ok h
      obtain ⟨tA, tB⟩ := distErr_in d1
      obtain ⟨u1, u2⟩ := distErr_in d2
      obtain ⟨v1, v2⟩ := distErr_in d3
      have k1 := rc_bounds (A := A.t) tB
      have k2 := rc_bounds (A := B.t) u2
      have k3 := rc_bounds (A := B.t) v2
      have g1 : tripLo A B s = rcLo B.t A.t (rvLo A B s) := by unfold tripLo; rw [if_pos h', b1]
      have g2 : tripHi A B s = rcHi B.t A.t (rvHi A B s) := by unfold tripHi; rw [if_pos h', c2]
      rw [g1, g2]
      have hle : rvLo A B s ≤ rvHi A B s := by rw [a1, a2]; exact k1.2
      have ar := rc_arr v2 l3
      have ar2 := arr_down (v2.to (by omega) l3) (by omega) u1 v1 hle ar
      have key := rcHi_le u1 u2 (by omega) l3 ar2
      exact ⟨e1, by omega, by omega, by omega⟩
    · rw [if_neg e2] at h; exact absurd h e2
  · rw [if_neg e1] at h; exact absurd h e1
end Go.Proofs.YtnfoagcpgegldaaGreat
