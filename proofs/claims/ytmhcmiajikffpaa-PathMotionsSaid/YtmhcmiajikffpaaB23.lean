/- Helpers: the minimum rate (MinimumRate). -/
import Derived.Test.YtmhcmiajikffpaaB16
import Derived.Test.YtmhcmiajikffpaaB15
import Derived.Test.YtmhcmiajikffpaaB17
import Derived.Test.YtmhcmiajikffpaaB22
namespace Go.Proofs.Ytmhcmiajikffpaa
open Go.RowKit Go.Shelf Go.Sort
attribute [local go_sem] idx3_0 idx3_1 idx3_2 old1 fro1 old2 fro2 old3 fro3 old4 fro4 old5 fro5 old6 fro6 old7 fro7 old8 fro8 old9 fro9 old10 fro10 old11 fro11 old12 fro12
/-- With this rate there is a motion. -/
def okB (t lo hi st : Int) (n : Nat) (xs : Nat → Int) (r : Int) : Bool := (List.range n).all fun i => !(mr r (pPos t lo hi st r n xs i) (aF t lo hi st xs i) (pR t lo hi st r n xs i) (kkF t lo hi st xs i) == -1)
theorem okB_iff {t lo hi st : Int} {n : Nat} {xs : Nat → Int} {r : Int} : okB t lo hi st n xs r = true ↔ ∀ i, i < n → pOk t lo hi st r n xs i := by
  unfold okB
  rw [List.all_eq_true]
  constructor
  · intro h i hi'
    have := h i (List.mem_range.2 hi')
    have h2 : mr r (pPos t lo hi st r n xs i) (aF t lo hi st xs i) (pR t lo hi st r n xs i) (kkF t lo hi st xs i) ≠ -1 := by simpa using this
    exact h2
  · intro h i hi'
    have : mr r (pPos t lo hi st r n xs i) (aF t lo hi st xs i) (pR t lo hi st r n xs i) (kkF t lo hi st xs i) ≠ -1 := h i (List.mem_range.1 hi')
    simpa using this
theorem mot_any (t lo hi st ra : Int) (A : Option Addr) (n c : Nat) (xs : Nat → Int) (w : World) (hA : IA w A n xs) (hd : driveErr t lo hi st ra = 0) (hn : n ≤ 40) (hx : ∀ i, i < n → 0 ≤ xs i ∧ xs i ≤ t - 1) :
    Calls Try.prog 53 #[.agg #[.int .i64 t, .int .i64 lo, .int .i64 hi, .int .i64 st, .int .i64 ra], .slice A n c] w fun e w' => Below w.heap.size w w' ∧
      ∃ A' n' c' x, e = .returned (.tuple #[.slice A' n' c', .int .i64 x]) ∧ (x != -1) = okB t lo hi st n xs ra := by
  obtain ⟨⟨t1, t2⟩, ⟨l1, l2⟩, ⟨h1, h2⟩, ⟨r0, r1⟩, f1, f2⟩ := drive_ok hd
  refine (minimumMotion_o t lo hi st ra A n c xs w (by omega) hA (fun i hi => ⟨(hx i hi).1, by have := (hx i hi).2; omega⟩) t1 t2 l1 l2 h1 h2 f1 f2 r0 r1 _ _ _ rfl rfl rfl (fun i _ => rows_in t1 t2 l1 h2 f1 f2 i)).mono ?_
  rintro e w' ⟨hb, ⟨ho, v, rfl, hv⟩ | ⟨⟨i, hlt, hni⟩, rfl⟩⟩
  · obtain ⟨hv1, _⟩ := own_parts hv
    have hT := (mtrv_in (ra := ra) (R := pR t lo hi st ra n xs) l1 h2 f1 f2 (fun i (_ : i < n) => (rows_in (xs := xs) t1 t2 l1 h2 f1 f2 i).2) n (Nat.le_refl n) ho).1
    refine ⟨hb, sA v, n, sC v, mtrv ra st (kkF t lo hi st xs) (aF t lo hi st xs) (pR t lo hi st ra n xs) n, congrArg (fun q => Ending.returned (.tuple #[q, .int .i64 (mtrv ra st (kkF t lo hi st xs) (aF t lo hi st xs) (pR t lo hi st ra n xs) n)])) hv1, ?_⟩
    rw [okB_iff.2 ho]
    have : mtrv ra st (kkF t lo hi st xs) (aF t lo hi st xs) (pR t lo hi st ra n xs) n ≠ -1 := by omega
    simpa using this
  · refine ⟨hb, none, 0, 0, -1, rfl, ?_⟩
    cases ho : okB t lo hi st n xs ra
    · rfl
    · exact absurd (okB_iff.1 ho i hlt) hni
set_option maxRecDepth 100000 in
set_option maxHeartbeats 2000000 in
theorem minimumRate1_any (t lo hi st ra r : Int) (bd bs : Nat) (A : Option Addr) (n c : Nat) (xs : Nat → Int) (w : World) (hA : IA w A n xs) (hd : driveErr t lo hi st r = 0) (hn : n ≤ 40) (hx : ∀ i, i < n → 0 ≤ xs i ∧ xs i ≤ t - 1)
    (d0 : w.cell? ⟨bd, 0, none⟩ = some (.int .i64 t)) (d1 : w.cell? ⟨bd, 1, none⟩ = some (.int .i64 lo)) (d2 : w.cell? ⟨bd, 2, none⟩ = some (.int .i64 hi)) (d3 : w.cell? ⟨bd, 3, none⟩ = some (.int .i64 st)) (d4 : w.cell? ⟨bd, 4, none⟩ = some (.int .i64 ra)) (s0 : w.cell? ⟨bs, 0, none⟩ = some (.slice A n c)) :
    Calls Try.prog 55 #[.int .i64 r, .pointer (some ⟨bd, 0, none⟩), .pointer (some ⟨bs, 0, none⟩)] w fun e w' => e = .returned (.bool (okB t lo hi st n xs r)) ∧ Below w.heap.size w w' := by
  have HM := fun W hW => Lib.hid (mot_any t lo hi st r A n c xs W hW hd hn hx)
  have HA := Lib.hid hA
  clear hA
  go_enter Try.func55, Try.ntmps55
  go_wp2_with (go_at_call 53; go_loud ((with_reducible refine Calls.mono (HM _ (HA.out.below (by (repeat (first | with_reducible exact Below.refl _ _ | with_reducible assumption | with_reducible refine Below.alloc ?_ (by first | (simp; done) | (simp; omega) | omega) _ | with_reducible refine Below.setCell ?_ (by first | (simp; done) | (simp; omega) | omega) _ | with_reducible refine Below.drew ?_ | with_reducible refine below_drewN ?_ _))))).out ?_); rintro e w1 ⟨hb1, A', n', c', x, rfl, hx1⟩; have B1 := thenB (show Below w.heap.size w _ by (repeat (first | with_reducible exact Below.refl _ _ | with_reducible assumption | with_reducible refine Below.alloc ?_ (by first | (simp; done) | (simp; omega) | omega) _ | with_reducible refine Below.setCell ?_ (by first | (simp; done) | (simp; omega) | omega) _ | with_reducible refine Below.drew ?_ | with_reducible refine below_drewN ?_ _))) hb1; have HX := Lib.hid hx1; clear hb1 hx1))
  go_ret
  exact ⟨ret_bool HX.out, B1⟩
def SomeRate (t lo hi st ra : Int) (n : Nat) (xs : Nat → Int) (w : World) (e : Ending) (w' : World) : Prop :=
  Below w.heap.size w w' ∧ ((ptErr t lo hi st ra n xs ≠ 0 ∧ e = .returned (.tuple #[.int .i64 0, .int .i64 (ptErr t lo hi st ra n xs)])) ∨
    (ptErr t lo hi st ra n xs = 0 ∧ ∃ r, RL (okB t lo hi st n xs) 0 40000 r ∧ ((40000 < r ∧ e = .returned (.tuple #[.int .i64 0, .int .i64 12])) ∨ (r ≤ 40000 ∧ e = .returned (.tuple #[.int .i64 r, .int .i64 0])))))
theorem drive_rate {t lo hi st ra r : Int} (h : driveErr t lo hi st ra = 0) (r0 : 0 ≤ r) (r1 : r ≤ 40000) : driveErr t lo hi st r = 0 := by
  obtain ⟨t1, l1, h1, _, f1, f2⟩ := drive_ok h
  unfold driveErr dr1
  rw [wi_t.2 t1, wi_t.2 l1, wi_t.2 h1, wi_t.2 ⟨r0, r1⟩, wi_t.2 ⟨f1, f2⟩]
  have : decide (lo ≤ hi) = true := by simp; omega
  rw [this]
  rfl
theorem leastRate (t lo hi st ra : Int) (bd bs : Nat) (A : Option Addr) (n c : Nat) (xs : Nat → Int) (w : World) (hA : IA w A n xs) (hd : driveErr t lo hi st ra = 0) (hn : n ≤ 40) (hx : ∀ i, i < n → 0 ≤ xs i ∧ xs i ≤ t - 1)
    (d0 : w.cell? ⟨bd, 0, none⟩ = some (.int .i64 t)) (d1 : w.cell? ⟨bd, 1, none⟩ = some (.int .i64 lo)) (d2 : w.cell? ⟨bd, 2, none⟩ = some (.int .i64 hi)) (d3 : w.cell? ⟨bd, 3, none⟩ = some (.int .i64 st)) (d4 : w.cell? ⟨bd, 4, none⟩ = some (.int .i64 ra)) (s0 : w.cell? ⟨bs, 0, none⟩ = some (.slice A n c)) :
    Calls Try.prog 54 #[.int .i64 0, .int .i64 40000, .func (.func 55) #[] #[.pointer (some ⟨bd, 0, none⟩), .pointer (some ⟨bs, 0, none⟩)]] w (SomeL (okB t lo hi st n xs) 0 40000 w) :=
  least_any 55 _ 0 40000 _ w (enters_of Try.func55 (by kernel_rfl) rfl) (by omega) (by omega) (by omega) (fun r w1 h1 h2 hb =>
    minimumRate1_any t lo hi st ra r bd bs A n c xs w1 (hA.below hb) (drive_rate hd h1 h2) hn hx (keep hb d0) (keep hb d1) (keep hb d2) (keep hb d3) (keep hb d4) (keep hb s0))
set_option maxRecDepth 100000 in
set_option maxHeartbeats 2000000 in
theorem minimumRate_any (t lo hi st ra : Int) (A : Option Addr) (n c : Nat) (xs : Nat → Int) (w : World) (hn : n ≤ 9223372036854775807) (hA : IA w A n xs) :
    Calls Try.prog 21 #[.agg #[.int .i64 t, .int .i64 lo, .int .i64 hi, .int .i64 st, .int .i64 ra], .slice A n c] w (SomeRate t lo hi st ra n xs w) := by
  have HC := fun W hW => Lib.hid (checkTargets_any t lo hi st ra A n c xs W hn hW)
  have HA := Lib.hid hA
  by_cases h0 : ptErr t lo hi st ra n xs = 0
  · obtain ⟨hd, hn40, hx⟩ := pt_ok h0
    have HS : Hid (∀ e w', Below w.heap.size w w' → (∃ r, RL (okB t lo hi st n xs) 0 40000 r ∧ ((40000 < r ∧ e = .returned (.tuple #[.int .i64 0, .int .i64 12])) ∨ (r ≤ 40000 ∧ e = .returned (.tuple #[.int .i64 r, .int .i64 0])))) → SomeRate t lo hi st ra n xs w e w') := fun e w' hb h => ⟨hb, .inr ⟨h0, h⟩⟩
    rw [h0] at HC
    clear hA h0
    go_enter Try.func21, Try.ntmps21
    go_wp2_with (first
      | (go_at_call 52; (with_reducible refine Calls.mono (HC _ (HA.out.below (by (repeat (first | with_reducible exact Below.refl _ _ | with_reducible assumption | with_reducible refine Below.alloc ?_ (by first | (simp; done) | (simp; omega) | omega) _ | with_reducible refine Below.setCell ?_ (by first | (simp; done) | (simp; omega) | omega) _ | with_reducible refine Below.drew ?_ | with_reducible refine below_drewN ?_ _))))).out ?_); rintro e w1 ⟨rfl, hb1⟩; have B1 := Lib.hid (thenB (show Below w.heap.size w _ by (repeat (first | with_reducible exact Below.refl _ _ | with_reducible assumption | with_reducible refine Below.alloc ?_ (by first | (simp; done) | (simp; omega) | omega) _ | with_reducible refine Below.setCell ?_ (by first | (simp; done) | (simp; omega) | omega) _ | with_reducible refine Below.drew ?_ | with_reducible refine below_drewN ?_ _))) hb1); have d0 := (hb1.cell (p := ⟨w.heap.size, 0, none⟩) (by first | (simp; done) | (simp; omega) | omega)).trans (show _ = some (.int .i64 t) by simp [go_sem]); have d1 := (hb1.cell (p := ⟨w.heap.size, 1, none⟩) (by first | (simp; done) | (simp; omega) | omega)).trans (show _ = some (.int .i64 lo) by simp [go_sem]); have d2 := (hb1.cell (p := ⟨w.heap.size, 2, none⟩) (by first | (simp; done) | (simp; omega) | omega)).trans (show _ = some (.int .i64 hi) by simp [go_sem]); have d3 := (hb1.cell (p := ⟨w.heap.size, 3, none⟩) (by first | (simp; done) | (simp; omega) | omega)).trans (show _ = some (.int .i64 st) by simp [go_sem]); have d4 := (hb1.cell (p := ⟨w.heap.size, 4, none⟩) (by first | (simp; done) | (simp; omega) | omega)).trans (show _ = some (.int .i64 ra) by simp [go_sem]); have s0 := (hb1.cell (p := ⟨w.heap.size + 1, 0, none⟩) (by first | (simp; done) | (simp; omega) | omega)).trans (show _ = some (.slice A n c) by simp [go_sem]); clear hb1)
      | (go_at_call 54; (with_reducible refine Calls.mono (leastRate t lo hi st ra w.heap.size (w.heap.size + 1) A n c xs _ (HA.out.below B1.out) hd hn40 hx d0 d1 d2 d3 d4 s0) ?_); rintro e w2 ⟨r, rfl, hr, hb2⟩; have B2 := Lib.hid (thenB B1.out hb2); have HR := Lib.hid hr; clear hb2 hr)
      | fail)
    all_goals
      go_ret2
      first
        | exact HS.out _ _ B2.out ⟨r, HR.out, .inl ⟨by omega, rfl⟩⟩
        | exact HS.out _ _ B2.out ⟨r, HR.out, .inr ⟨by omega, rfl⟩⟩
  · have HS : Hid (∀ e w', Below w.heap.size w w' → e = .returned (.tuple #[.int .i64 0, .int .i64 (ptErr t lo hi st ra n xs)]) → SomeRate t lo hi st ra n xs w e w') := fun e w' hb h => ⟨hb, .inl ⟨h0, h⟩⟩
    have g0 : (ptErr t lo hi st ra n xs != 0) = true := by simp [h0]
    have g1 : (ptErr t lo hi st ra n xs == 0) = false := by simp [h0]
    clear hA h0
    generalize ptErr t lo hi st ra n xs = P at HC g0 g1 HS
    go_enter Try.func21, Try.ntmps21
    go_wp2_with (first
      | (go_at_call 52; (with_reducible refine Calls.mono (HC _ (HA.out.below (by (repeat (first | with_reducible exact Below.refl _ _ | with_reducible assumption | with_reducible refine Below.alloc ?_ (by first | (simp; done) | (simp; omega) | omega) _ | with_reducible refine Below.setCell ?_ (by first | (simp; done) | (simp; omega) | omega) _ | with_reducible refine Below.drew ?_ | with_reducible refine below_drewN ?_ _))))).out ?_); rintro e w1 ⟨rfl, hb1⟩; have B1 := Lib.hid (thenB (show Below w.heap.size w _ by (repeat (first | with_reducible exact Below.refl _ _ | with_reducible assumption | with_reducible refine Below.alloc ?_ (by first | (simp; done) | (simp; omega) | omega) _ | with_reducible refine Below.setCell ?_ (by first | (simp; done) | (simp; omega) | omega) _ | with_reducible refine Below.drew ?_ | with_reducible refine below_drewN ?_ _))) hb1); clear hb1)
      | fail)
    go_ret2
    exact HS.out _ _ B1.out rfl
end Go.Proofs.Ytmhcmiajikffpaa
namespace Go.Proofs.Ytmhcmiajikffpaa
open Go.RowKit Go.Shelf Go.Sort
attribute [local go_sem] idx3_0 idx3_1 idx3_2 old1 fro1 old2 fro2 old3 fro3 old4 fro4 old5 fro5 old6 fro6 old7 fro7 old8 fro8 old9 fro9 old10 fro10 old11 fro11 old12 fro12
theorem cpE_1 {t lo hi ra x y bf : Int} (h : wi x lo hi = false) : cpE t lo hi ra x y bf = 23 := by unfold cpE; simp [h]
theorem cpE_2 {t lo hi ra x y bf : Int} (t1 : 1 ≤ t) (h : wi x lo hi = true) (h2 : ¬ (x - y) % t = 0) : cpE t lo hi ra x y bf = 13 := by
  have h3 : ((x - y).tmod t == 0) = false := by rw [← mod_zero _ _ t1]; simpa using h2
  unfold cpE
  rw [h, h3]
  rfl
theorem cpE_3 {t lo hi ra x y bf : Int} (t1 : 1 ≤ t) (h : wi x lo hi = true) (h2 : (x - y) % t = 0) (h4 : ¬ siz (x - bf) ≤ ra) : cpE t lo hi ra x y bf = 24 := by
  have h3 : ((x - y).tmod t == 0) = true := by rw [← mod_zero _ _ t1]; simpa using h2
  unfold cpE
  rw [h, h3]
  simp [h4]
theorem cpE_4 {t lo hi ra x y bf : Int} (t1 : 1 ≤ t) (h : wi x lo hi = true) (h2 : (x - y) % t = 0) (h4 : siz (x - bf) ≤ ra) : cpE t lo hi ra x y bf = 0 := by
  have h3 : ((x - y).tmod t == 0) = true := by rw [← mod_zero _ _ t1]; simpa using h2
  unfold cpE
  rw [h, h3]
  simp [h4]
theorem rhit {t lo hi st ra : Int} {n k : Nat} {xs ys : Nat → Int} {E : Int} (hk : k < n) (he : cpi t lo hi st ra xs ys k = E) (h0 : E ≠ 0) (hz : ∀ i, i < k → cpi t lo hi st ra xs ys i = 0) : cpTr t lo hi st ra n xs ys = 0 ∧ ferr (cpi t lo hi st ra xs ys) 0 n = E := by
  have h := ferr_hit (er := cpi t lo hi st ra xs ys) (k := k) (by rw [he]; exact h0) n 0 (Nat.zero_le _) (by omega) (fun j _ hj => hz j hj)
  rw [he] at h
  exact ⟨by unfold cpTr; rw [h, if_neg h0], h⟩
end Go.Proofs.Ytmhcmiajikffpaa
namespace Go.Proofs.Ytmhcmiajikffpaa
open Go.RowKit Go.Shelf Go.Sort
attribute [local go_sem] idx3_0 idx3_1 idx3_2 old1 fro1 old2 fro2 old3 fro3 old4 fro4 old5 fro5 old6 fro6 old7 fro7 old8 fro8 old9 fro9 old10 fro10 old11 fro11 old12 fro12
theorem copyInts_any (A : Option Addr) (n c : Nat) (xs : Nat → Int) (w : World) (hn : n ≤ 1000000) (h0 : A = none → n = 0 ∧ c = 0) (hA : IA w A n xs) :
    Calls Try.prog 20 #[.slice A n c] w fun e w' => ∃ A' c', e = .returned (.slice A' n c') ∧ IA w' A' n xs ∧ Below w.heap.size w w' := by
  cases A with
  | some a => exact copyInts_some a n c xs w hn hA
  | none =>
    obtain ⟨rfl, rfl⟩ := h0 rfl
    exact (copyInts_nil w).mono fun e w' ⟨A', c', he, hb⟩ => ⟨A', c', he, fun h => absurd h (Nat.lt_irrefl 0), hb⟩
/-- The travel and the error that CheckPointing answers. -/
def cpV (t lo hi st ra : Int) (n m : Nat) (xs ys : Nat → Int) : Int := if ptErr t lo hi st ra n xs = 0 then (if m = n then cpTr t lo hi st ra n xs ys else 0) else 0
def cpF (t lo hi st ra : Int) (n m : Nat) (xs ys : Nat → Int) : Int := if ptErr t lo hi st ra n xs = 0 then (if m = n then ferr (cpi t lo hi st ra xs ys) 0 n else 10) else ptErr t lo hi st ra n xs
theorem pe_0 {t lo hi st ra : Int} {n : Nat} {xs : Nat → Int} (h : driveErr t lo hi st ra = 0) : ptErr t lo hi st ra n xs = tgErr n xs t := by unfold ptErr; rw [if_pos h]
theorem pe_1 {t lo hi st ra : Int} {n : Nat} {xs : Nat → Int} (h : driveErr t lo hi st ra ≠ 0) : ptErr t lo hi st ra n xs = driveErr t lo hi st ra := by unfold ptErr; rw [if_neg h]
end Go.Proofs.Ytmhcmiajikffpaa
namespace Go.Proofs.Ytmhcmiajikffpaa
open Go.RowKit Go.Shelf Go.Sort
attribute [local go_sem] idx3_0 idx3_1 idx3_2 old1 fro1 old2 fro2 old3 fro3 old4 fro4 old5 fro5 old6 fro6 old7 fro7 old8 fro8 old9 fro9 old10 fro10 old11 fro11 old12 fro12
set_option maxRecDepth 100000 in
set_option maxHeartbeats 800000 in
theorem roomy_any (t lo hi st ra : Int) (w : World) (hd : driveErr t lo hi st ra = 0) :
    Calls Try.prog 17 #[.agg #[.int .i64 t, .int .i64 lo, .int .i64 hi, .int .i64 st, .int .i64 ra]] w fun e w' => e = .returned (.bool (decide ((hi - lo).tdiv t ≤ 10))) ∧ Below w.heap.size w w' := by
  obtain ⟨⟨t1, t2⟩, ⟨l1, l2⟩, ⟨h1, h2⟩, ⟨r0, r1⟩, f1, f2⟩ := drive_ok hd
  have HD := fun W => Lib.hid (rdriveErr_any t lo hi st ra W)
  rw [hd] at HD
  have hne : ¬ t = 0 := by omega
  have hne2 : (t == 0) = false := by simp; omega
  have u1 : IntKind.i64.wrap (hi - lo) = hi - lo := IntWalk.i64_in _ (by omega)
  obtain ⟨q1, q2, _, _⟩ := tdiv_bd (hi - lo) t (by omega) (by omega) (by omega)
  have u2 : IntKind.i64.wrap ((hi - lo).tdiv t) = (hi - lo).tdiv t := IntWalk.i64_in _ (by omega)
  go_enter Try.func17, Try.ntmps17
  go_wp2_with (go_at_call 22; (with_reducible refine Calls.mono (HD _).out ?_); rintro e w1 ⟨rfl, hb1⟩; have B1 := Lib.hid (thenB (show Below w.heap.size w _ by (repeat (first | with_reducible exact Below.refl _ _ | with_reducible assumption | with_reducible refine Below.alloc ?_ (by first | (simp; done) | (simp; omega) | omega) _ | with_reducible refine Below.setCell ?_ (by first | (simp; done) | (simp; omega) | omega) _ | with_reducible refine Below.drew ?_ | with_reducible refine below_drewN ?_ _))) hb1); have d0 := (hb1.cell (p := ⟨w.heap.size, 0, none⟩) (by first | (simp; done) | (simp; omega) | omega)).trans (show _ = some (.int .i64 t) by simp [go_sem]); have d1 := (hb1.cell (p := ⟨w.heap.size, 1, none⟩) (by first | (simp; done) | (simp; omega) | omega)).trans (show _ = some (.int .i64 lo) by simp [go_sem]); have d2 := (hb1.cell (p := ⟨w.heap.size, 2, none⟩) (by first | (simp; done) | (simp; omega) | omega)).trans (show _ = some (.int .i64 hi) by simp [go_sem]); clear hb1)
  go_ret
  exact ⟨rfl, B1.out⟩
end Go.Proofs.Ytmhcmiajikffpaa
namespace Go.Proofs.Ytmhcmiajikffpaa
open Go.RowKit Go.Shelf Go.Sort
attribute [local go_sem] idx3_0 idx3_1 idx3_2 old1 fro1 old2 fro2 old3 fro3 old4 fro4 old5 fro5 old6 fro6 old7 fro7 old8 fro8 old9 fro9 old10 fro10 old11 fro11 old12 fro12
theorem IA.bel {w W : World} {A : Option Addr} {n : Nat} {xs : Nat → Int} (h : IA w A n xs) (hb : Below w.heap.size w W) : IA W A n xs := h.below hb
theorem IA.bel2 {w W : World} {A : Option Addr} {n : Nat} {xs : Nat → Int} (h : IA w A n xs) (hb : Below w.heap.size w W) : IA W A n xs := h.below hb
theorem IA.on {w w1 : World} {A : Option Addr} {n : Nat} {xs : Nat → Int} (hb : Below w.heap.size w w1) (h : IA w A n xs) : IA w1 A n xs := h.below hb
end Go.Proofs.Ytmhcmiajikffpaa
namespace Go.Proofs.Ytmhcmiajikffpaa
open Go.RowKit Go.Shelf Go.Sort
attribute [local go_sem] idx3_0 idx3_1 idx3_2 old1 fro1 old2 fro2 old3 fro3 old4 fro4 old5 fro5 old6 fro6 old7 fro7 old8 fro8 old9 fro9 old10 fro10 old11 fro11 old12 fro12
end Go.Proofs.Ytmhcmiajikffpaa
namespace Go.Proofs.Ytmhcmiajikffpaa
open Go.RowKit Go.Shelf Go.Sort
attribute [local go_sem] idx3_0 idx3_1 idx3_2 old1 fro1 old2 fro2 old3 fro3 old4 fro4 old5 fro5 old6 fro6 old7 fro7 old8 fro8 old9 fro9 old10 fro10 old11 fro11 old12 fro12
end Go.Proofs.Ytmhcmiajikffpaa
namespace Go.Proofs.Ytmhcmiajikffpaa
open Go.RowKit Go.Shelf Go.Sort
attribute [local go_sem] idx3_0 idx3_1 idx3_2 old1 fro1 old2 fro2 old3 fro3 old4 fro4 old5 fro5 old6 fro6 old7 fro7 old8 fro8 old9 fro9 old10 fro10 old11 fro11 old12 fro12
end Go.Proofs.Ytmhcmiajikffpaa
namespace Go.Proofs.Ytmhcmiajikffpaa
open Go.RowKit Go.Shelf Go.Sort
attribute [local go_sem] idx3_0 idx3_1 idx3_2 old1 fro1 old2 fro2 old3 fro3 old4 fro4 old5 fro5 old6 fro6 old7 fro7 old8 fro8 old9 fro9 old10 fro10 old11 fro11 old12 fro12
theorem pt_rate {t lo hi st ra r : Int} {n : Nat} {xs : Nat → Int} (h : ptErr t lo hi st ra n xs = 0) (r0 : 0 ≤ r) (r1 : r ≤ 40000) : ptErr t lo hi st r n xs = 0 := by
  have hd := (pt_ok h).1
  rw [pe_0 hd] at h
  rw [pe_0 (drive_rate hd r0 r1)]
  exact h
theorem pt_in {t lo hi st ra : Int} {n : Nat} {xs : Nat → Int} (h : ptErr t lo hi st ra n xs = 0) : 1 ≤ t ∧ lo ≤ st ∧ st ≤ hi ∧ ∀ i, i < n → ∀ j, j < kkF t lo hi st xs i → lo ≤ aF t lo hi st xs i j ∧ aF t lo hi st xs i j ≤ hi := by
  obtain ⟨hd, _, _⟩ := pt_ok h
  obtain ⟨⟨t1, t2⟩, ⟨l1, l2⟩, ⟨h1, h2⟩, ⟨r0, r1⟩, f1, f2⟩ := drive_ok hd
  exact ⟨t1, f1, f2, fun i _ => (rows_in t1 t2 l1 h2 f1 f2 i).2⟩
theorem ok_can {t lo hi st ra : Int} {n : Nat} {xs : Nat → Int} (h : ptErr t lo hi st ra n xs = 0) (r : Int) : okB t lo hi st n xs r = true ↔ Can t lo hi st r n xs := by
  obtain ⟨t1, f1, f2, hin⟩ := pt_in h
  rw [okB_iff, can_iff t1 f1 f2 hin]
theorem ok_mono {t lo hi st ra : Int} {n : Nat} {xs : Nat → Int} (h : ptErr t lo hi st ra n xs = 0) {r r' : Int} (hr : okB t lo hi st n xs r = true) (hle : r ≤ r') : okB t lo hi st n xs r' = true := by
  obtain ⟨ys, hy⟩ := (ok_can h r).1 hr
  exact (ok_can h r').2 ⟨ys, hy.faster hle⟩
/-- The pointing where there is a motion, and where there is none. -/
theorem point_no (t lo hi st ra : Int) (n : Nat) (xs : Nat → Int) (h : ptErr t lo hi st ra n xs = 0) (hno : okB t lo hi st n xs ra = false) (W : World) (A2 : Option Addr) (c2 : Nat) (hA : IA W A2 n xs) :
    Calls Try.prog 19 #[.agg #[.int .i64 t, .int .i64 lo, .int .i64 hi, .int .i64 st, .int .i64 ra], .slice A2 n c2] W fun e w' => e = .returned (.tuple #[.slice none 0 0, .int .i64 0, .int .i64 12]) ∧ Below W.heap.size W w' :=
  (pointing_any t lo hi st ra A2 n c2 xs W (by have := (pt_ok h).2.1; omega) hA).mono (by
    rintro e w' ⟨hb, _, h2⟩
    rcases h2 h with ⟨ho, _⟩ | ⟨_, rfl⟩
    · rw [okB_iff.2 ho] at hno; cases hno
    · exact ⟨rfl, hb⟩)
theorem point_yes (t lo hi st ra : Int) (n : Nat) (xs : Nat → Int) (h : ptErr t lo hi st ra n xs = 0) (hyes : okB t lo hi st n xs ra = true) (W : World) (A2 : Option Addr) (c2 : Nat) (hA : IA W A2 n xs) :
    Calls Try.prog 19 #[.agg #[.int .i64 t, .int .i64 lo, .int .i64 hi, .int .i64 st, .int .i64 ra], .slice A2 n c2] W fun e w' => ∃ A3 c3, e = .returned (.tuple #[.slice A3 n c3, .int .i64 (pTrv t lo hi st ra n xs n), .int .i64 0]) ∧ IA w' A3 n (pL t lo hi st ra n xs) ∧ (A3 = none → n = 0 ∧ c3 = 0) ∧ Below W.heap.size W w' :=
  (pointing_any t lo hi st ra A2 n c2 xs W (by have := (pt_ok h).2.1; omega) hA).mono (by
    rintro e w' ⟨hb, _, h2⟩
    rcases h2 h with ⟨ho, _, v, rfl, hv⟩ | ⟨⟨i, hlt, hni⟩, _⟩
    · have hv2 : w'.ownsRow W.heap.size 3 1 v n (intsL n (pL t lo hi st ra n xs)) := hv
      obtain ⟨e1, e2⟩ := own_ints hv2
      refine ⟨sA v, sC v, congrArg (fun q => Ending.returned (.tuple #[q, .int .i64 (pTrv t lo hi st ra n xs n), .int .i64 0])) e1, e2, fun hz => ?_, hb⟩
      rcases hv2.2 with ⟨rfl, hn0⟩ | ⟨g, cap, cur, rfl, _⟩
      · exact ⟨hn0, rfl⟩
      · cases hz
    · exact absurd (okB_iff.1 hyes i hlt) hni)
theorem point_some (t lo hi st ra : Int) (n : Nat) (xs : Nat → Int) (h : ptErr t lo hi st ra n xs = 0) (hyes : okB t lo hi st n xs ra = true) (W : World) (A2 : Option Addr) (c2 : Nat) (hA : IA W A2 n xs) :
    Calls Try.prog 19 #[.agg #[.int .i64 t, .int .i64 lo, .int .i64 hi, .int .i64 st, .int .i64 ra], .slice A2 n c2] W fun e w' => ∃ A3 n3 c3 T3, e = .returned (.tuple #[.slice A3 n3 c3, .int .i64 T3, .int .i64 0]) ∧ Below W.heap.size W w' :=
  (point_yes t lo hi st ra n xs h hyes W A2 c2 hA).mono fun _ _ ⟨A3, c3, he, _, _, hb⟩ => ⟨A3, n, c3, _, he, hb⟩
theorem cpF_0 {t lo hi st ra : Int} {n m : Nat} {xs ys : Nat → Int} (h : ptErr t lo hi st ra n xs = 0) (hF : cpF t lo hi st ra n m xs ys = 0) : m = n ∧ Mot t lo hi st ra n xs ys ∧ cpV t lo hi st ra n m xs ys = ctv st ys n := by
  unfold cpF at hF
  rw [if_pos h] at hF
  by_cases e : m = n
  · rw [if_pos e] at hF
    refine ⟨e, mot_iff.1 hF, ?_⟩
    unfold cpV
    rw [if_pos h, if_pos e]
    unfold cpTr
    rw [if_pos hF]
  · rw [if_neg e] at hF; omega
/-- The minimum rate. -/
theorem rate_fix (t lo hi st ra : Int) (n : Nat) (xs : Nat → Int) (h : ptErr t lo hi st ra n xs = 0) :
    ∃ rr G : Int, ((G = 12 ∧ okB t lo hi st n xs 40000 = false) ∨ (G = 0 ∧ 0 ≤ rr ∧ rr ≤ 40000 ∧ okB t lo hi st n xs rr = true ∧ (rr = 0 ∨ okB t lo hi st n xs (rr - 1) = false))) ∧
      ∀ W A2 c2, IA W A2 n xs → Calls Try.prog 21 #[.agg #[.int .i64 t, .int .i64 lo, .int .i64 hi, .int .i64 st, .int .i64 ra], .slice A2 n c2] W fun e w' => e = .returned (.tuple #[.int .i64 rr, .int .i64 G]) ∧ Below W.heap.size W w' := by
  have hn := (pt_ok h).2.1
  cases h4 : okB t lo hi st n xs 40000
  · refine ⟨0, 12, .inl ⟨rfl, rfl⟩, fun W A2 c2 hA => (minimumRate_any t lo hi st ra A2 n c2 xs W (by omega) hA).mono ?_⟩
    rintro e w' ⟨hb, ⟨hne, _⟩ | ⟨_, r, hr, h2⟩⟩
    · exact absurd h hne
    · have : r = 40001 := RL_t hr (by omega) (by omega) (fun x q1 q2 => ⟨fun hx => (by rw [ok_mono h hx q2] at h4; cases h4), fun q => (by omega)⟩)
      rcases h2 with ⟨_, rfl⟩ | ⟨h3, _⟩
      · exact ⟨rfl, hb⟩
      · omega
  · have hleast : ∃ k : Nat, okB t lo hi st n xs k = true ∧ (k = 0 ∨ okB t lo hi st n xs ((k : Int) - 1) = false) ∧ (k : Int) ≤ 40000 := by
      have : ∀ d : Nat, d ≤ 40000 → okB t lo hi st n xs (d : Int) = true → ∃ k : Nat, okB t lo hi st n xs k = true ∧ (k = 0 ∨ okB t lo hi st n xs ((k : Int) - 1) = false) ∧ (k : Int) ≤ 40000 := by
        intro d
        induction d with
        | zero => intro _ hd; exact ⟨0, hd, .inl rfl, by omega⟩
        | succ d ih =>
          intro hd1 hd2
          cases hp : okB t lo hi st n xs (d : Int)
          · exact ⟨d + 1, hd2, .inr (by rw [show ((d + 1 : Nat) : Int) - 1 = (d : Int) by omega]; exact hp), by omega⟩
          · exact ih (by omega) hp
      exact this 40000 (Nat.le_refl _) h4
    obtain ⟨k, k1, k2, k3⟩ := hleast
    refine ⟨k, 0, .inr ⟨rfl, by omega, k3, k1, by rcases k2 with q | q; exact .inl (by omega); exact .inr q⟩, fun W A2 c2 hA => (minimumRate_any t lo hi st ra A2 n c2 xs W (by omega) hA).mono ?_⟩
    rintro e w' ⟨hb, ⟨hne, _⟩ | ⟨_, r, hr, h2⟩⟩
    · exact absurd h hne
    · have : r = (k : Int) := RL_t hr (by omega) (by omega) (fun x q1 q2 => ⟨fun hx => (by
          rcases Int.lt_or_le x k with q | q
          · rcases k2 with z | z
            · omega
            · rw [ok_mono h hx (show x ≤ (k : Int) - 1 by omega)] at z; cases z
          · exact q), fun q => ok_mono h k1 q⟩)
      subst this
      rcases h2 with ⟨h3, _⟩ | ⟨_, rfl⟩
      · omega
      · exact ⟨rfl, hb⟩
end Go.Proofs.Ytmhcmiajikffpaa
namespace Go.Proofs.Ytmhcmiajikffpaa
open Go.RowKit Go.Shelf Go.Sort
attribute [local go_sem] idx3_0 idx3_1 idx3_2 old1 fro1 old2 fro2 old3 fro3 old4 fro4 old5 fro5 old6 fro6 old7 fro7 old8 fro8 old9 fro9 old10 fro10 old11 fro11 old12 fro12
theorem tl_empty (n : Nat) (xs : Nat → Int) : ((List.range n).map xs).isEmpty = decide (n = 0) := by
  rw [List.isEmpty_map]
  cases n with
  | zero => rfl
  | succ n => rw [List.range_succ_eq_map]; rfl
/-- the reference's best way of all, and the program's -/
theorem rb_best {t lo hi st ra : Int} {n : Nat} {xs : Nat → Int} (t1 : 1 ≤ t) (t2 : t ≤ 3600) (l1 : -20000 ≤ lo) (h2 : hi ≤ 20000) (f1 : lo ≤ st) (f2 : st ≤ hi) :
    (bst ra st (rwR t lo hi ra n xs 0) (decide (n = 0)) = none → okB t lo hi st n xs ra = false) ∧
    (∀ s, bst ra st (rwR t lo hi ra n xs 0) (decide (n = 0)) = some s → okB t lo hi st n xs ra = true ∧ s.tr = pTrv t lo hi st ra n xs n ∧ follow t lo hi ra ((List.range n).map xs) s.nx = (List.range n).map (pL t lo hi st ra n xs)) := by
  have e : rwR t lo hi ra n xs 0 = rowR t lo hi ra ((List.range n).map xs) := by unfold rwR; rw [tlR_0]
  rw [e, ← tl_empty n xs]
  obtain ⟨q1, q2⟩ := ref_best (ra := ra) (n := n) (xs := xs) t1 f1 f2 (fun i _ => (rows_in t1 t2 l1 h2 f1 f2 i).2)
  refine ⟨fun h => ?_, fun s h => ?_⟩
  · cases hk : okB t lo hi st n xs ra with
    | false => rfl
    | true => exact absurd (okB_iff.1 hk) (q1 h)
  · obtain ⟨a1, a2, a3⟩ := q2 s h
    exact ⟨okB_iff.2 a1, a2, a3⟩
theorem rpoint_rate (t lo hi st r : Int) (A : Option Addr) (n c : Nat) (xs : Nat → Int) (w : World) (hd : driveErr t lo hi st r = 0) (hn : n ≤ 42) (hx : ∀ i, i < n → 0 ≤ xs i ∧ xs i ≤ t - 1) (hA : IA w A n xs) :
    Calls Try.prog 24 #[.agg #[.int .i64 t, .int .i64 lo, .int .i64 hi, .int .i64 st, .int .i64 r], .slice A n c] w fun e w' => ∃ A' n' c' x, e = .returned (.tuple #[.slice A' n' c', .int .i64 x, .bool (okB t lo hi st n xs r)]) ∧ Below w.heap.size w w' := by
  obtain ⟨⟨t1, t2⟩, ⟨l1, l2⟩, ⟨h1, h2⟩, ⟨r0, r1⟩, f1, f2⟩ := drive_ok hd
  obtain ⟨b1, b2⟩ := rb_best (ra := r) (n := n) (xs := xs) t1 t2 l1 h2 f1 f2
  refine (rpointing_x t lo hi st r A n c xs w hn hA (fun i hi' => ⟨(hx i hi').1, by have := (hx i hi').2; omega⟩) t1 t2 l1 l2 h1 h2 f1 f2 r0 r1 _ rfl).mono ?_
  rintro e w' ⟨hb, ⟨h, rfl⟩ | ⟨s, v, h, rfl, hv⟩⟩
  · exact ⟨none, 0, 0, 0, by rw [b1 h], hb⟩
  · exact ⟨sA v, n, sC v, s.tr, by rw [(b2 s h).1, ← (own_parts hv).1], hb⟩
def SomeRR (t lo hi st : Int) (n : Nat) (xs : Nat → Int) (w : World) (e : Ending) (w' : World) : Prop :=
  Below w.heap.size w w' ∧ ((okB t lo hi st n xs 40000 = false ∧ e = .returned (.tuple #[.int .i64 0, .bool false])) ∨
    ∃ r, 0 ≤ r ∧ r ≤ 40000 ∧ okB t lo hi st n xs r = true ∧ (r = 0 ∨ okB t lo hi st n xs (r - 1) = false) ∧ e = .returned (.tuple #[.int .i64 r, .bool true]))
set_option maxRecDepth 100000 in
set_option maxHeartbeats 2000000 in
theorem rminimumRate_any (t lo hi st ra : Int) (A : Option Addr) (n c : Nat) (xs : Nat → Int) (w : World) (hd : driveErr t lo hi st ra = 0) (hn : n ≤ 42) (hx : ∀ i, i < n → 0 ≤ xs i ∧ xs i ≤ t - 1) (hA : IA w A n xs) :
    Calls Try.prog 26 #[.agg #[.int .i64 t, .int .i64 lo, .int .i64 hi, .int .i64 st, .int .i64 ra], .slice A n c] w (SomeRR t lo hi st n xs w) := by
  have HP := Lib.hid (fun (r : Int) (q0 : 0 ≤ r) (q1 : r ≤ 40000) W (hW : IA W A n xs) => rpoint_rate t lo hi st r A n c xs W (drive_rate hd q0 q1) hn hx hW)
  have HA := Lib.hid hA
  clear hd hx hA
  have HB : Hid (∀ W, Below w.heap.size w W → IA W A n xs) := fun W hW => HA.out.below hW
  cases h4 : okB t lo hi st n xs 40000 with
  | false =>
    have HP4 : Hid (∀ W, Below w.heap.size w W → Calls Try.prog 24 #[.agg #[.int .i64 t, .int .i64 lo, .int .i64 hi, .int .i64 st, .int .i64 40000], .slice A n c] W fun e w' => ∃ A' n' c' x, e = .returned (.tuple #[.slice A' n' c', .int .i64 x, .bool false]) ∧ Below W.heap.size W w') := fun W hW => by
      have := HP.out 40000 (by omega) (by omega) W (HB.out W hW)
      rw [h4] at this
      exact this
    have H4 := Lib.hid h4
    clear h4
    go_enter Try.func26, Try.ntmps26
    go_wp2_with (go_at_call 24; (with_reducible refine Calls.mono (HP4.out _ (by (repeat (first | with_reducible exact Below.refl _ _ | with_reducible assumption | with_reducible refine Below.alloc ?_ (by first | (simp; done) | (simp; omega) | omega) _ | with_reducible refine Below.setCell ?_ (by first | (simp; done) | (simp; omega) | omega) _ | with_reducible refine Below.drew ?_ | with_reducible refine below_drewN ?_ _)))) ?_); rintro e w1 ⟨A', n', c', x, rfl, hb1⟩; have B1 := Lib.hid (belowT (show Below w.heap.size w _ by (repeat (first | with_reducible exact Below.refl _ _ | with_reducible assumption | with_reducible refine Below.alloc ?_ (by first | (simp; done) | (simp; omega) | omega) _ | with_reducible refine Below.setCell ?_ (by first | (simp; done) | (simp; omega) | omega) _ | with_reducible refine Below.drew ?_ | with_reducible refine below_drewN ?_ _))) hb1); clear hb1)
    go_ret2
    exact ⟨B1.out, .inl ⟨H4.out, rfl⟩⟩
  | true =>
    have HP4 : Hid (∀ W, Below w.heap.size w W → Calls Try.prog 24 #[.agg #[.int .i64 t, .int .i64 lo, .int .i64 hi, .int .i64 st, .int .i64 40000], .slice A n c] W fun e w' => ∃ A' n' c' x, e = .returned (.tuple #[.slice A' n' c', .int .i64 x, .bool true]) ∧ Below W.heap.size W w') := fun W hW => by
      have := HP.out 40000 (by omega) (by omega) W (HB.out W hW)
      rw [h4] at this
      exact this
    have H4 := Lib.hid h4
    clear h4
    go_enter Try.func26, Try.ntmps26
    go_wp2_with (go_at_call 24; (with_reducible refine Calls.mono (HP4.out _ (by (repeat (first | with_reducible exact Below.refl _ _ | with_reducible assumption | with_reducible refine Below.alloc ?_ (by first | (simp; done) | (simp; omega) | omega) _ | with_reducible refine Below.setCell ?_ (by first | (simp; done) | (simp; omega) | omega) _ | with_reducible refine Below.drew ?_ | with_reducible refine below_drewN ?_ _)))) ?_); rintro e w1 ⟨A', n', c', x, rfl, hb1⟩; have B1 := Lib.hid (belowT (show Below w.heap.size w _ by (repeat (first | with_reducible exact Below.refl _ _ | with_reducible assumption | with_reducible refine Below.alloc ?_ (by first | (simp; done) | (simp; omega) | omega) _ | with_reducible refine Below.setCell ?_ (by first | (simp; done) | (simp; omega) | omega) _ | with_reducible refine Below.drew ?_ | with_reducible refine below_drewN ?_ _))) hb1); have d0 := keep hb1 (b := w.heap.size) (o := 0) (v := .int .i64 t) (by simp [go_sem]); have d1 := keep hb1 (b := w.heap.size) (o := 1) (v := .int .i64 lo) (by simp [go_sem]); have d2 := keep hb1 (b := w.heap.size) (o := 2) (v := .int .i64 hi) (by simp [go_sem]); have d3 := keep hb1 (b := w.heap.size) (o := 3) (v := .int .i64 st) (by simp [go_sem]); have d4 := keep hb1 (b := w.heap.size) (o := 4) (v := .int .i64 40000) (by simp [go_sem]); have df := (hb1.frozen (p := ⟨w.heap.size, 4, none⟩) (by first | (simp; done) | (simp; omega) | omega)).trans (show _ = false by simp [go_sem]); clear hb1)
    go_loopw [6, 7] (fun s6 s7 wr => ∃ a b : Int, s6 = .int .i64 a ∧ s7 = .int .i64 b ∧ 0 ≤ a ∧ a ≤ b ∧ b ≤ 40000 ∧ Hid (okB t lo hi st n xs b = true) ∧ Hid (a = 0 ∨ okB t lo hi st n xs (a - 1) = false) ∧ Below w.heap.size w wr ∧ (wr.cell? ⟨w.heap.size, 0, none⟩ = some (.int .i64 t) ∧ wr.cell? ⟨w.heap.size, 1, none⟩ = some (.int .i64 lo) ∧ wr.cell? ⟨w.heap.size, 2, none⟩ = some (.int .i64 hi) ∧ wr.cell? ⟨w.heap.size, 3, none⟩ = some (.int .i64 st)) ∧ (∃ v, wr.cell? ⟨w.heap.size, 4, none⟩ = some v) ∧ wr.frozen? ⟨w.heap.size, 4, none⟩ = false) (fun x y _ => (intOf y - intOf x).toNat)
    case atStart => exact ⟨0, 40000, rfl, rfl, by omega, by omega, by omega, H4.out, .inl rfl, B1.out, ⟨d0, d1, d2, d3⟩, ⟨_, d4⟩, df⟩
    case round =>
      clear d0 d1 d2 d3 d4 df
      obtain ⟨a, b, rfl, rfl, a0, ab, b1, Hb, Ha, hbw, ⟨d0, d1, d2, d3⟩, ⟨v4, d4⟩, df⟩ := hrel
      by_cases hlt : a < b
      · have m1 : a ≤ (a + b) / 2 := by omega
        have m2 : (a + b) / 2 < b := by omega
        cases hm : okB t lo hi st n xs ((a + b) / 2) with
        | true =>
          have HPM : Hid (∀ W, Below w.heap.size w W → Calls Try.prog 24 #[.agg #[.int .i64 t, .int .i64 lo, .int .i64 hi, .int .i64 st, .int .i64 ((a + b) / 2)], .slice A n c] W fun e w' => ∃ A' n' c' x, e = .returned (.tuple #[.slice A' n' c', .int .i64 x, .bool true]) ∧ Below W.heap.size W w') := fun W hW => by
            have := HP.out ((a + b) / 2) (by omega) (by omega) W (HB.out W hW)
            rw [hm] at this
            exact this
          have HM := Lib.hid hm
          clear hm Hb
          go_wp2_with (go_at_call 24; (with_reducible refine Calls.mono (HPM.out _ (by (repeat (first | with_reducible exact Below.refl _ _ | with_reducible assumption | with_reducible refine Below.alloc ?_ (by first | (simp; done) | (simp; omega) | omega) _ | with_reducible refine Below.setCell ?_ (by first | (simp; done) | (simp; omega) | omega) _ | with_reducible refine Below.drew ?_ | with_reducible refine below_drewN ?_ _)))) ?_); rintro e w2 ⟨A2, n2, c2, x2, rfl, hb2⟩; have B2 := Lib.hid (belowT (show Below w.heap.size w _ by (repeat (first | with_reducible exact Below.refl _ _ | with_reducible assumption | with_reducible refine Below.alloc ?_ (by first | (simp; done) | (simp; omega) | omega) _ | with_reducible refine Below.setCell ?_ (by first | (simp; done) | (simp; omega) | omega) _ | with_reducible refine Below.drew ?_ | with_reducible refine below_drewN ?_ _))) hb2); have g0 := keep hb2 (b := w.heap.size) (o := 0) (v := .int .i64 t) (by simp [go_sem, *]); have g1 := keep hb2 (b := w.heap.size) (o := 1) (v := .int .i64 lo) (by simp [go_sem, *]); have g2 := keep hb2 (b := w.heap.size) (o := 2) (v := .int .i64 hi) (by simp [go_sem, *]); have g3 := keep hb2 (b := w.heap.size) (o := 3) (v := .int .i64 st) (by simp [go_sem, *]); have g4 := keep hb2 (b := w.heap.size) (o := 4) (v := .int .i64 ((a + b) / 2)) (by simp [go_sem, *]); have gf := (hb2.frozen (p := ⟨w.heap.size, 4, none⟩) (by have := lt_of d0; simpa using this)).trans (show _ = false by simp [go_sem, *]); clear hb2)
          go_roundw
          case rel => exact ⟨a, (a + b) / 2, rfl, rfl, a0, m1, by omega, HM.out, Ha, B2.out, ⟨g0, g1, g2, g3⟩, ⟨_, g4⟩, gf⟩
          case measure => simp [intOf]; omega
        | false =>
          have HPM : Hid (∀ W, Below w.heap.size w W → Calls Try.prog 24 #[.agg #[.int .i64 t, .int .i64 lo, .int .i64 hi, .int .i64 st, .int .i64 ((a + b) / 2)], .slice A n c] W fun e w' => ∃ A' n' c' x, e = .returned (.tuple #[.slice A' n' c', .int .i64 x, .bool false]) ∧ Below W.heap.size W w') := fun W hW => by
            have := HP.out ((a + b) / 2) (by omega) (by omega) W (HB.out W hW)
            rw [hm] at this
            exact this
          have HM := Lib.hid hm
          clear hm Ha
          go_wp2_with (go_at_call 24; (with_reducible refine Calls.mono (HPM.out _ (by (repeat (first | with_reducible exact Below.refl _ _ | with_reducible assumption | with_reducible refine Below.alloc ?_ (by first | (simp; done) | (simp; omega) | omega) _ | with_reducible refine Below.setCell ?_ (by first | (simp; done) | (simp; omega) | omega) _ | with_reducible refine Below.drew ?_ | with_reducible refine below_drewN ?_ _)))) ?_); rintro e w2 ⟨A2, n2, c2, x2, rfl, hb2⟩; have B2 := Lib.hid (belowT (show Below w.heap.size w _ by (repeat (first | with_reducible exact Below.refl _ _ | with_reducible assumption | with_reducible refine Below.alloc ?_ (by first | (simp; done) | (simp; omega) | omega) _ | with_reducible refine Below.setCell ?_ (by first | (simp; done) | (simp; omega) | omega) _ | with_reducible refine Below.drew ?_ | with_reducible refine below_drewN ?_ _))) hb2); have g0 := keep hb2 (b := w.heap.size) (o := 0) (v := .int .i64 t) (by simp [go_sem, *]); have g1 := keep hb2 (b := w.heap.size) (o := 1) (v := .int .i64 lo) (by simp [go_sem, *]); have g2 := keep hb2 (b := w.heap.size) (o := 2) (v := .int .i64 hi) (by simp [go_sem, *]); have g3 := keep hb2 (b := w.heap.size) (o := 3) (v := .int .i64 st) (by simp [go_sem, *]); have g4 := keep hb2 (b := w.heap.size) (o := 4) (v := .int .i64 ((a + b) / 2)) (by simp [go_sem, *]); have gf := (hb2.frozen (p := ⟨w.heap.size, 4, none⟩) (by have := lt_of d0; simpa using this)).trans (show _ = false by simp [go_sem, *]); clear hb2)
          go_roundw
          case rel => exact ⟨(a + b) / 2 + 1, b, rfl, rfl, by omega, by omega, b1, Hb, .inr (by rw [show (a + b) / 2 + 1 - 1 = (a + b) / 2 by omega]; exact HM.out), B2.out, ⟨g0, g1, g2, g3⟩, ⟨_, g4⟩, gf⟩
          case measure => simp [intOf]; omega
      · obtain rfl : a = b := by omega
        go_wp2_with fail
        go_ret2
        exact ⟨hbw, .inr ⟨a, a0, b1, Hb, Ha, rfl⟩⟩
/-- The minimum rate. -/
theorem rate_fix2 (t lo hi st ra : Int) (n : Nat) (xs : Nat → Int) (h : ptErr t lo hi st ra n xs = 0) :
    ∃ rr G : Int, ((G = 12 ∧ rr = 0 ∧ okB t lo hi st n xs 40000 = false) ∨ (G = 0 ∧ 0 ≤ rr ∧ rr ≤ 40000 ∧ okB t lo hi st n xs rr = true ∧ (rr = 0 ∨ okB t lo hi st n xs (rr - 1) = false))) ∧
      ∀ W A2 c2, IA W A2 n xs → Calls Try.prog 21 #[.agg #[.int .i64 t, .int .i64 lo, .int .i64 hi, .int .i64 st, .int .i64 ra], .slice A2 n c2] W fun e w' => e = .returned (.tuple #[.int .i64 rr, .int .i64 G]) ∧ Below W.heap.size W w' := by
  have hn := (pt_ok h).2.1
  cases h4 : okB t lo hi st n xs 40000
  · refine ⟨0, 12, .inl ⟨rfl, rfl, rfl⟩, fun W A2 c2 hA => (minimumRate_any t lo hi st ra A2 n c2 xs W (by omega) hA).mono ?_⟩
    rintro e w' ⟨hb, ⟨hne, _⟩ | ⟨_, r, hr, h2⟩⟩
    · exact absurd h hne
    · have : r = 40001 := RL_t hr (by omega) (by omega) (fun x q1 q2 => ⟨fun hx => (by rw [ok_mono h hx q2] at h4; cases h4), fun q => (by omega)⟩)
      rcases h2 with ⟨_, rfl⟩ | ⟨h3, _⟩
      · exact ⟨rfl, hb⟩
      · omega
  · have hleast : ∃ k : Nat, okB t lo hi st n xs k = true ∧ (k = 0 ∨ okB t lo hi st n xs ((k : Int) - 1) = false) ∧ (k : Int) ≤ 40000 := by
      have : ∀ d : Nat, d ≤ 40000 → okB t lo hi st n xs (d : Int) = true → ∃ k : Nat, okB t lo hi st n xs k = true ∧ (k = 0 ∨ okB t lo hi st n xs ((k : Int) - 1) = false) ∧ (k : Int) ≤ 40000 := by
        intro d
        induction d with
        | zero => intro _ hd; exact ⟨0, hd, .inl rfl, by omega⟩
        | succ d ih =>
          intro hd1 hd2
          cases hp : okB t lo hi st n xs (d : Int)
          · exact ⟨d + 1, hd2, .inr (by rw [show ((d + 1 : Nat) : Int) - 1 = (d : Int) by omega]; exact hp), by omega⟩
          · exact ih (by omega) hp
      exact this 40000 (Nat.le_refl _) h4
    obtain ⟨k, k1, k2, k3⟩ := hleast
    refine ⟨k, 0, .inr ⟨rfl, by omega, k3, k1, by rcases k2 with q | q; exact .inl (by omega); exact .inr q⟩, fun W A2 c2 hA => (minimumRate_any t lo hi st ra A2 n c2 xs W (by omega) hA).mono ?_⟩
    rintro e w' ⟨hb, ⟨hne, _⟩ | ⟨_, r, hr, h2⟩⟩
    · exact absurd h hne
    · have : r = (k : Int) := RL_t hr (by omega) (by omega) (fun x q1 q2 => ⟨fun hx => (by
          rcases Int.lt_or_le x k with q | q
          · rcases k2 with z | z
            · omega
            · rw [ok_mono h hx (show x ≤ (k : Int) - 1 by omega)] at z; cases z
          · exact q), fun q => ok_mono h k1 q⟩)
      subst this
      rcases h2 with ⟨h3, _⟩ | ⟨_, rfl⟩
      · omega
      · exact ⟨rfl, hb⟩
end Go.Proofs.Ytmhcmiajikffpaa
