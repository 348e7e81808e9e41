/- Helpers: whole complex numbers as complex ones, quarter turns, bins. No condition but the bounds that each theorem names. -/
import Derived.Test.YtpkacfgmojblbaaB04
import Derived.Test.YtpkacfgmojblbaaB03
import Derived.StillTailTactics
namespace Go.Proofs.Ytpkacfgmojblbaa
open Go.RowKit
attribute [local go_sem] old1 fro1 old2 fro2 old3 fro3 old4 fro4 old5 fro5 old6 fro6 old7 fro7 old8 fro8 old9 fro9 old10 fro10 old11 fro11 old12 fro12
theorem fmx64 : fmx .f64 = 9007199254740992 := by simp [fmx, FloatKind.format, Ieee.double]
theorem run_store_cx (w : World) (a : Addr) (k : FloatKind) (x y : Nat) (m : Mode) : (store a (.complex k x y) m).run Try.prog w = stored Try.prog w a (.complex k x y) m := run_store Try.prog w a _ m rfl
attribute [local go_sem] run_store_cx
theorem fi0 : FI .f64 0 0 := ⟨false, 0, -1074, by kernel_rfl, 0, 1074, by decide, by kernel_rfl⟩
theorem fi1 : FI .f64 4607182418800017408 1 := ⟨false, 4503599627370496, -52, by kernel_rfl, 0, 52, by decide, by kernel_rfl⟩
theorem fim1 : FI .f64 13830554455654793216 (-1) := ⟨true, 4503599627370496, -52, by kernel_rfl, 0, 52, by decide, by kernel_rfl⟩
def fI (x : Int) : Nat := floatOfInt .f64 x
theorem fi_of {x : Int} (h1 : -9007199254740991 ≤ x) (h2 : x ≤ 9007199254740991) : FI .f64 (fI x) x := FI.ofInt (by rw [fmx64]; omega)
theorem fi_int {a : Nat} {x : Int} (h : FI .f64 a x) (x1 : -9223372036854775808 ≤ x) (x2 : x ≤ 9223372036854775807) : floatToIntVal .f64 a .i64 = some x := h.toInt .i64 x1 x2
theorem undI : Try.prog.underlying 3 = some (.int .i64) := by kernel_rfl
theorem undF : Try.prog.underlying 161 = some (.float .f64) := by kernel_rfl
set_option maxRecDepth 100000 in
set_option maxHeartbeats 800000 in
theorem complexOf_any (x y : Int) (w : World) :
    Calls Try.prog 143 #[.agg #[.int .i64 x, .int .i64 y]] w fun e w' => e = .returned (.complex .f64 (fI x) (fI y)) ∧ Below w.heap.size w w' := by
  unfold fI
  go_enter Try.func143, Try.ntmps143
  go_wp2
  go_ret
  exact ⟨rfl, by (repeat (first | with_reducible exact Below.refl _ _ | with_reducible assumption | with_reducible refine Below.alloc ?_ (by first | (simp; done) | (simp; omega) | omega) _ | with_reducible refine Below.setCell ?_ (by first | (simp; done) | (simp; omega) | omega) _ | with_reducible refine Below.drew ?_ | with_reducible refine below_drewN ?_ _))⟩
set_option maxRecDepth 100000 in
set_option maxHeartbeats 800000 in
theorem gaussOf_any (a b : Nat) (x y : Int) (ha : FI .f64 a x) (hb : FI .f64 b y) (x1 : -9007199254740991 ≤ x) (x2 : x ≤ 9007199254740991) (y1 : -9007199254740991 ≤ y) (y2 : y ≤ 9007199254740991) (w : World) :
    Calls Try.prog 142 #[.complex .f64 a b] w fun e w' => e = .returned (.agg #[.int .i64 x, .int .i64 y]) ∧ Below w.heap.size w w' := by
  have c1 : ∀ W, (convert 161 3 (.float .f64 a)).run Try.prog W = .ok (.int .i64 x) W := fun W => run_convert_float_int W _ _ .f64 .i64 a x (by rw [undF]; rfl) undI (fi_int ha (by omega) (by omega))
  have c2 : ∀ W, (convert 161 3 (.float .f64 b)).run Try.prog W = .ok (.int .i64 y) W := fun W => run_convert_float_int W _ _ .f64 .i64 b y (by rw [undF]; rfl) undI (fi_int hb (by omega) (by omega))
  clear ha hb x1 x2 y1 y2
  go_enter Try.func142, Try.ntmps142
  go_wp2
  refine bodyPost_ret (v := .agg #[.int .i64 x, .int .i64 y]) (by simp [results, Try.results142, go_sem]) rfl ⟨rfl, by (repeat (first | with_reducible exact Below.refl _ _ | with_reducible assumption | with_reducible refine Below.alloc ?_ (by first | (simp; done) | (simp; omega) | omega) _ | with_reducible refine Below.setCell ?_ (by first | (simp; done) | (simp; omega) | omega) _ | with_reducible refine Below.drew ?_ | with_reducible refine below_drewN ?_ _))⟩
/-- i to the power m -/
def qRe (m : Int) : Int := if m % 4 = 0 then 1 else if m % 4 = 2 then -1 else 0
def qIm (m : Int) : Int := if m % 4 = 1 then 1 else if m % 4 = 3 then -1 else 0
theorem q_cases (m : Int) : (m % 4 = 0 ∧ qRe m = 1 ∧ qIm m = 0) ∨ (m % 4 = 1 ∧ qRe m = 0 ∧ qIm m = 1) ∨ (m % 4 = 2 ∧ qRe m = -1 ∧ qIm m = 0) ∨ (m % 4 = 3 ∧ qRe m = 0 ∧ qIm m = -1) := by
  unfold qRe qIm
  rcases (by omega : m % 4 = 0 ∨ m % 4 = 1 ∨ m % 4 = 2 ∨ m % 4 = 3) with h | h | h | h <;> simp [h]
set_option maxRecDepth 100000 in
set_option maxHeartbeats 2000000 in
theorem quarterTurns_any (m : Int) (h1 : -1000000000 ≤ m) (h2 : m ≤ 1000000000) (w : World) :
    Calls Try.prog 107 #[.int .i64 m] w fun e w' => ∃ c d, e = .returned (.complex .f64 c d) ∧ FI .f64 c (qRe m) ∧ FI .f64 d (qIm m) ∧ Below w.heap.size w w' := by
  have HM := fun W => Lib.hid (modulo_any m 4 (by omega) (by omega) (by omega) (by omega) W)
  rcases q_cases m with ⟨h, r1, r2⟩ | ⟨h, r1, r2⟩ | ⟨h, r1, r2⟩ | ⟨h, r1, r2⟩
  all_goals
    rw [h] at HM
    rw [r1, r2]
    clear h r1 r2
    go_enter Try.func107, Try.ntmps107
    go_wp2_with (go_at_call 102; (with_reducible refine Calls.mono (HM _).out ?_); rintro e w1 ⟨rfl, rfl⟩)
    go_ret
  · exact ⟨_, _, rfl, fi1, fi0, by (repeat (first | with_reducible exact Below.refl _ _ | with_reducible assumption | with_reducible refine Below.alloc ?_ (by first | (simp; done) | (simp; omega) | omega) _ | with_reducible refine Below.setCell ?_ (by first | (simp; done) | (simp; omega) | omega) _ | with_reducible refine Below.drew ?_ | with_reducible refine below_drewN ?_ _))⟩
  · exact ⟨_, _, rfl, fi0, fi1, by (repeat (first | with_reducible exact Below.refl _ _ | with_reducible assumption | with_reducible refine Below.alloc ?_ (by first | (simp; done) | (simp; omega) | omega) _ | with_reducible refine Below.setCell ?_ (by first | (simp; done) | (simp; omega) | omega) _ | with_reducible refine Below.drew ?_ | with_reducible refine below_drewN ?_ _))⟩
  · exact ⟨_, _, rfl, fim1, fi0, by (repeat (first | with_reducible exact Below.refl _ _ | with_reducible assumption | with_reducible refine Below.alloc ?_ (by first | (simp; done) | (simp; omega) | omega) _ | with_reducible refine Below.setCell ?_ (by first | (simp; done) | (simp; omega) | omega) _ | with_reducible refine Below.drew ?_ | with_reducible refine below_drewN ?_ _))⟩
  · exact ⟨_, _, rfl, fi0, fim1, by (repeat (first | with_reducible exact Below.refl _ _ | with_reducible assumption | with_reducible refine Below.alloc ?_ (by first | (simp; done) | (simp; omega) | omega) _ | with_reducible refine Below.setCell ?_ (by first | (simp; done) | (simp; omega) | omega) _ | with_reducible refine Below.drew ?_ | with_reducible refine below_drewN ?_ _))⟩
/-- a number times i to the power m -/
def rtR (m : Int) (g : Int × Int) : Int := g.1 * qRe m - g.2 * qIm m
def rtI (m : Int) (g : Int × Int) : Int := g.1 * qIm m + g.2 * qRe m
theorem rt_bd {m M : Int} {g : Int × Int} (a1 : -M ≤ g.1) (a2 : g.1 ≤ M) (b1 : -M ≤ g.2) (b2 : g.2 ≤ M) :
    ((-M ≤ rtR m g ∧ rtR m g ≤ M) ∧ -M ≤ rtI m g ∧ rtI m g ≤ M) ∧ (-M ≤ g.1 * qRe m ∧ g.1 * qRe m ≤ M) ∧ (-M ≤ g.2 * qIm m ∧ g.2 * qIm m ≤ M) ∧ (-M ≤ g.1 * qIm m ∧ g.1 * qIm m ≤ M) ∧ -M ≤ g.2 * qRe m ∧ g.2 * qRe m ≤ M := by
  unfold rtR rtI
  rcases q_cases m with ⟨_, r1, r2⟩ | ⟨_, r1, r2⟩ | ⟨_, r1, r2⟩ | ⟨_, r1, r2⟩ <;> rw [r1, r2] <;> omega
/-- the sum of the first numbers, each turned by so many quarters as its index times s -/
def bnS (s : Int) (g : Nat → Int × Int) : Nat → Int × Int
  | 0 => (0, 0)
  | k + 1 => ((bnS s g k).1 + rtR (s * k) (g k), (bnS s g k).2 + rtI (s * k) (g k))
theorem bn_bd {s M : Int} {g : Nat → Int × Int} {n : Nat} (h0 : 0 ≤ M) (h : ∀ i, i < n → (-M ≤ (g i).1 ∧ (g i).1 ≤ M) ∧ -M ≤ (g i).2 ∧ (g i).2 ≤ M) :
    ∀ k, k ≤ n → (-(M * k) ≤ (bnS s g k).1 ∧ (bnS s g k).1 ≤ M * k) ∧ -(M * k) ≤ (bnS s g k).2 ∧ (bnS s g k).2 ≤ M * k
  | 0, _ => by simp [bnS]
  | k + 1, hk => by
    have ih := bn_bd (s := s) h0 h k (by omega)
    obtain ⟨⟨a1, a2⟩, b1, b2⟩ := h k (by omega)
    have r := (rt_bd (m := s * k) a1 a2 b1 b2).1
    have e : M * ((k + 1 : Nat) : Int) = M * k + M := by rw [Int.natCast_add, Int.mul_add, Int.natCast_one, Int.mul_one]
    rw [e]
    simp only [bnS]
    omega

set_option maxRecDepth 100000 in
set_option maxHeartbeats 2000000 in
theorem bin_any (A : Option Addr) (n c : Nat) (g : Nat → Int × Int) (q : Int) (w : World) (hn : n ≤ 400) (hA : GA w A n g) (q1 : -3 ≤ q) (q2 : q ≤ 3) (hg : ∀ i, i < n → (-8000 ≤ (g i).1 ∧ (g i).1 ≤ 8000) ∧ -8000 ≤ (g i).2 ∧ (g i).2 ≤ 8000) :
    Calls Try.prog 121 #[.slice A n c, .int .i64 q] w fun e w' => e = .returned (.agg #[.int .i64 (bnS (-q) g n).1, .int .i64 (bnS (-q) g n).2]) ∧ Below w.heap.size w w' := by
  have HG := Lib.hid hg
  have wq : IntKind.i64.wrap (-q) = -q := IntWalk.i64_in _ (by omega)
  clear hg
  generalize hs : -q = s at *
  have s1 : -3 ≤ s := by omega
  have s2 : s ≤ 3 := by omega
  have HB1 := Lib.hid (bn_bd (s := s) (M := 8000) (by omega) HG.out n (Nat.le_refl _))
  go_enter Try.func121, Try.ntmps121
  go_wp2_with fail
  go_loopw [5, 10] (fun s5 s10 wr => ∃ (k a b : Nat), k ≤ n ∧ s5 = .complex .f64 a b ∧ s10 = .int .i64 k ∧ Below w.heap.size w wr ∧ Hid (FI .f64 a (bnS s g k).1 ∧ FI .f64 b (bnS s g k).2) ∧ ((wr.cell? ⟨w.heap.size, 0, none⟩).isSome = true ∧ (wr.cell? ⟨w.heap.size, 1, none⟩).isSome = true ∧ wr.frozen? ⟨w.heap.size, 0, none⟩ = false ∧ wr.frozen? ⟨w.heap.size, 1, none⟩ = false)) (fun _ i _ => n - (intOf i).toNat)
  case atStart => exact ⟨0, 0, 0, Nat.zero_le _, rfl, rfl, by (repeat (first | with_reducible exact Below.refl _ _ | with_reducible assumption | with_reducible refine Below.alloc ?_ (by first | (simp; done) | (simp; omega) | omega) _ | with_reducible refine Below.setCell ?_ (by first | (simp; done) | (simp; omega) | omega) _ | with_reducible refine Below.drew ?_ | with_reducible refine below_drewN ?_ _)), ⟨fi0, fi0⟩, by simp [go_sem], by simp [go_sem], by simp [go_sem], by simp [go_sem]⟩
  case round =>
    obtain ⟨k, a, b, hk, rfl, rfl, hbel, HF, r0, r1, z0, z1⟩ := hrel
    obtain ⟨v0, hv0⟩ := Option.isSome_iff_exists.1 r0
    obtain ⟨v1, hv1⟩ := Option.isSome_iff_exists.1 r1
    clear r0 r1
    by_cases hlt : k < n
    · obtain ⟨bA, oA, rfl, hA2⟩ := hA (by omega)
      have x0 := keep hbel (hA2 k hlt).1
      have x1 := keep hbel (hA2 k hlt).2
      obtain ⟨⟨a1, a2⟩, b1, b2⟩ := HG.out k hlt
      obtain ⟨⟨⟨t1, t2⟩, t3, t4⟩, ⟨p1, p2⟩, ⟨p3, p4⟩, ⟨p5, p6⟩, p7, p8⟩ := rt_bd (m := s * k) a1 a2 b1 b2
      obtain ⟨⟨S1, S2⟩, S3, S4⟩ := bn_bd (s := s) (M := 8000) (by omega) HG.out k hk
      have HS : Hid (bnS s g (k + 1) = ((bnS s g k).1 + rtR (s * k) (g k), (bnS s g k).2 + rtI (s * k) (g k))) := rfl
      have hsk := mbd (a := s) (b := k) (A := 3) (B := 400) (by omega) (by omega) (by omega) (by omega)
      have wk : IntKind.i64.wrap (s * k) = s * k := IntWalk.i64_in _ (by omega)
      have HQ := Lib.hid (fun W => quarterTurns_any (s * k) (by omega) (by omega) W)
      have HC := Lib.hid (fun W => complexOf_any (g k).1 (g k).2 W)
      have HX := Lib.hid (fi_of (x := (g k).1) (by omega) (by omega))
      have HY := Lib.hid (fi_of (x := (g k).2) (by omega) (by omega))
      have HMU := Lib.hid (fun (c d : Nat) (h1 : FI .f64 c (qRe (s * k))) (h2 : FI .f64 d (qIm (s * k))) => (show ∃ re im, cMulBits (fI (g k).1) (fI (g k).2) c d = some (re, im) ∧ FI .f64 re (rtR (s * k) (g k)) ∧ FI .f64 im (rtI (s * k) (g k)) from cmul_bits HX.out HY.out h1 h2 (by rw [fmx64]; omega) (by rw [fmx64]; omega) (by rw [fmx64]; omega) (by rw [fmx64]; omega) (by rw [fmx64]; unfold rtR at t1 t2; omega) (by rw [fmx64]; unfold rtI at t3 t4; omega)))
      have HSU := Lib.hid (fun (c d : Nat) (h1 : FI .f64 c (rtR (s * k) (g k))) (h2 : FI .f64 d (rtI (s * k) (g k))) => csum_bits HF.out.1 HF.out.2 h1 h2 (by rw [fmx64]; omega) (by rw [fmx64]; omega))
      have HB := Lib.hid hbel
      clear hbel hA2 a1 a2 b1 b2 t1 t2 t3 t4 p1 p2 p3 p4 p5 p6 p7 p8 S1 S2 S3 S4 hsk
      have g1 : (0 : Int) ≤ (k : Int) := by omega
      have g2 : (k : Int) < (n : Int) := by omega
      have hwl : w.heap.size < wr.heap.size := lt_of hv0
      generalize hgx : (g k).1 = gx at *
      generalize hgy : (g k).2 = gy at *
      go_wp2_with (first
        | (go_at_call 143; (with_reducible refine Calls.mono (HC.out _) ?_); rintro e w1 ⟨rfl, hb1⟩; have B1 := Lib.hid (belowT (show Below w.heap.size w _ by have Bq := HB.out; (repeat (first | with_reducible exact Below.refl _ _ | with_reducible assumption | with_reducible refine Below.alloc ?_ (by first | (simp; done) | (simp; omega) | omega) _ | with_reducible refine Below.setCell ?_ (by first | (simp; done) | (simp; omega) | omega) _ | with_reducible refine Below.drew ?_ | with_reducible refine below_drewN ?_ _))) hb1); have V0 := keep hb1 (b := w.heap.size) (o := 0) (v := v0) (by simp [go_sem, *]); have V1 := keep hb1 (b := w.heap.size) (o := 1) (v := v1) (by simp [go_sem, *]); have Z0 : w1.frozen? ⟨w.heap.size, 0, none⟩ = false := (hb1.frozen (p := ⟨w.heap.size, 0, none⟩) (by simp; omega)).trans (by simp [go_sem, *]); have Z1 : w1.frozen? ⟨w.heap.size, 1, none⟩ = false := (hb1.frozen (p := ⟨w.heap.size, 1, none⟩) (by simp; omega)).trans (by simp [go_sem, *]); clear hb1)
        | (go_at_call 107; (with_reducible refine Calls.mono (HQ.out _) ?_); rintro e w2 ⟨cc, dd, rfl, hc, hd, hb2⟩; obtain ⟨mr, mi, hm1, hm2, hm3⟩ := HMU.out cc dd hc hd; obtain ⟨sr, si, hs1, hs2, hs3⟩ := HSU.out mr mi hm2 hm3; have hmul := run_complex_mul (P := Try.prog) w2 140 _ _ cc dd mr mi hm1; have hsum := run_complex_sum (P := Try.prog) w2 .add (.inl rfl) 140 .f64 a b mr mi sr si hs1; have HR := Lib.hid (And.intro hs2 hs3); have B2 := Lib.hid (belowT B1.out hb2); have V2 := keep hb2 V0; have V3 := keep hb2 V1; have Z2 := (hb2.frozen (p := ⟨w.heap.size, 0, none⟩) (lt_of V0)).trans Z0; have Z3 := (hb2.frozen (p := ⟨w.heap.size, 1, none⟩) (lt_of V1)).trans Z1; clear hb2 hm1 hm2 hm3 hs1 hs2 hs3 hc hd))
      go_roundw
      case rel => exact ⟨k + 1, sr, si, by omega, rfl, by go_num, B2.out, by rw [HS.out]; exact HR.out, by rw [V2]; rfl, by rw [V3]; rfl, Z2, Z3⟩
      case measure => simp [intOf]; omega
    · obtain rfl : k = n := by omega
      have HB := Lib.hid hbel
      clear hbel
      obtain ⟨⟨S1, S2⟩, S3, S4⟩ := HB1.out
      have HGO := Lib.hid (fun W => gaussOf_any a b _ _ HF.out.1 HF.out.2 (by omega) (by omega) (by omega) (by omega) W)
      clear S1 S2 S3 S4
      generalize hX : (bnS s g k).1 = X at *
      generalize hY : (bnS s g k).2 = Y at *
      go_wp2_with (go_at_call 142; (with_reducible refine Calls.mono (HGO.out _) ?_); rintro e w1 ⟨rfl, hb1⟩; have B1 := Lib.hid (belowT HB.out hb1); have V0 := keep hb1 hv0; have V1 := keep hb1 hv1; have Z0 := (hb1.frozen (p := ⟨w.heap.size, 0, none⟩) (lt_of hv0)).trans z0; have Z1 := (hb1.frozen (p := ⟨w.heap.size, 1, none⟩) (lt_of hv1)).trans z1; clear hb1)
      refine bodyPost_ret (v := .agg #[.int .i64 X, .int .i64 Y]) (by simp [results, Try.results121, go_sem, *]) rfl ⟨by rw [hX, hY], by have Bq := B1.out; (repeat (first | with_reducible exact Below.refl _ _ | with_reducible assumption | with_reducible refine Below.alloc ?_ (by first | (simp; done) | (simp; omega) | omega) _ | with_reducible refine Below.setCell ?_ (by first | (simp; done) | (simp; omega) | omega) _ | with_reducible refine Below.drew ?_ | with_reducible refine below_drewN ?_ _))⟩

end Go.Proofs.Ytpkacfgmojblbaa
namespace Go.Proofs.Ytpkacfgmojblbaa
open Go.RowKit
attribute [local go_sem] old1 fro1 old2 fro2 old3 fro3 old4 fro4 old5 fro5 old6 fro6 old7 fro7 old8 fro8 old9 fro9 old10 fro10 old11 fro11 old12 fro12
theorem ferr_all {er : Nat → Int} : ∀ n i, ferr er i n = 0 → ∀ j, i ≤ j → j < i + n → er j = 0
  | 0, i, _, j, h1, h2 => by omega
  | n + 1, i, h, j, h1, h2 => by
    simp only [ferr] at h
    by_cases hz : er i = 0
    · rw [if_pos hz] at h
      by_cases e : j = i
      · rw [e]; exact hz
      · exact ferr_all n (i + 1) h j (by omega) (by omega)
    · rw [if_neg hz] at h; exact absurd h hz
theorem pt_0 {m : Int} {g : Int × Int} (h : ptE m g = 0) : (-m ≤ g.1 ∧ g.1 ≤ m) ∧ -m ≤ g.2 ∧ g.2 ≤ m := by
  unfold ptE at h
  by_cases h1 : rgE g.1 (-m) m = 0
  · rw [if_pos h1] at h
    exact ⟨rg_0 h1, rg_0 h⟩
  · rw [if_neg h1] at h; exact absurd h h1
/-- the error of samples -/
def smE (n : Nat) (g : Nat → Int × Int) : Int := atEG 400 n g (ptE 2000)
theorem sm_0 {n : Nat} {g : Nat → Int × Int} (h : smE n g = 0) : n ≤ 400 ∧ ∀ i, i < n → (-2000 ≤ (g i).1 ∧ (g i).1 ≤ 2000) ∧ -2000 ≤ (g i).2 ∧ (g i).2 ≤ 2000 := by
  unfold smE atEG at h
  by_cases hn : (n : Int) ≤ 400
  · rw [if_pos hn] at h
    exact ⟨by omega, fun i hi => pt_0 (ferr_all n 0 h i (by omega) (by omega))⟩
  · rw [if_neg hn] at h; cases h
set_option maxRecDepth 100000 in
set_option maxHeartbeats 800000 in
theorem samplesCheck_chk (A : Option Addr) (n c : Nat) (g : Nat → Int × Int) (w : World) (hn : n ≤ 1000000000) (hA : GA w A n g) :
    Calls Try.prog 108 #[.slice A n c] w fun e w' => ∃ v, e = .returned v ∧ Below w.heap.size w w' ∧ Chk True (smE n g) v w' := by
  have HP := Lib.hid (fun W => parts_itm 2000 W (by omega))
  have HA := Lib.hid (fun v W hW hI => atmostG_chk A n c g (ptE 2000) 400 v W hn hW hI)
  have HG := Lib.hid hA
  clear hA
  go_enter Try.func108, Try.ntmps108
  go_wp2_with (first
    | (go_at_call 91; (with_reducible refine Calls.mono (HP.out _) ?_); rintro e y1 ⟨v0, rfl, hb1, hi1⟩; have BV := Lib.hid (belowT (show Below w.heap.size w _ by (repeat (first | with_reducible exact Below.refl _ _ | with_reducible assumption | with_reducible refine Below.alloc ?_ (by first | (simp; done) | (simp; omega) | omega) _ | with_reducible refine Below.setCell ?_ (by first | (simp; done) | (simp; omega) | omega) _ | with_reducible refine Below.drew ?_ | with_reducible refine below_drewN ?_ _))) hb1); have KI := Lib.hid hi1; clear hb1 hi1)
    | (go_at_call 144; (with_reducible refine Calls.mono (HA.out _ _ (HG.out.bel BV.out) KI.out) ?_); rintro e y2 ⟨v1, rfl, hb2, hc2⟩; have BW := Lib.hid (belowT BV.out hb2); have KC := Lib.hid hc2; clear hb2 hc2))
  go_ret
  exact ⟨v1, rfl, BW.out, KC.out⟩
theorem im8 (w : World) (G : Nat) (hG : G < w.heap.size) (h0 : w.cell? ⟨G, 0, none⟩ = some (.int .i64 0)) (h1 : w.cell? ⟨G, 1, none⟩ = some (.int .i64 0)) (h2 : w.cell? ⟨G, 2, none⟩ = some (.int .i64 0)) (h3 : w.cell? ⟨G, 3, none⟩ = some (.int .i64 0)) (h4 : w.cell? ⟨G, 4, none⟩ = some (.int .i64 0)) (h5 : w.cell? ⟨G, 5, none⟩ = some (.int .i64 0)) (h6 : w.cell? ⟨G, 6, none⟩ = some (.int .i64 0)) (h7 : w.cell? ⟨G, 7, none⟩ = some (.int .i64 0)) (hz : ∀ i : Nat, w.frozen? ⟨G, i, none⟩ = false) : IM w G 8 (fun _ => 0) := by
  refine ⟨hG, fun i hi => ⟨?_, hz i⟩⟩
  rcases (by omega : i = 0 ∨ i = 1 ∨ i = 2 ∨ i = 3 ∨ i = 4 ∨ i = 5 ∨ i = 6 ∨ i = 7) with rfl | rfl | rfl | rfl | rfl | rfl | rfl | rfl <;> assumption
/-- the parts of all bins, one after the other -/
def bnF (g : Nat → Int × Int) (n i : Nat) : Int := if i % 2 = 0 then (bnS (-((i / 2 : Nat) : Int)) g n).1 else (bnS (-((i / 2 : Nat) : Int)) g n).2
theorem bnF_0 (g : Nat → Int × Int) (n k : Nat) : bnF g n (k * 2) = (bnS (-(k : Int)) g n).1 := by
  unfold bnF
  rw [if_pos (by omega), show k * 2 / 2 = k by omega]
theorem bnF_1 (g : Nat → Int × Int) (n k : Nat) : bnF g n (k * 2 + 1) = (bnS (-(k : Int)) g n).2 := by
  unfold bnF
  rw [if_neg (by omega), show (k * 2 + 1) / 2 = k by omega]
theorem bn_step (f : Nat → Int) (k i : Nat) : (if i = k * 2 + 1 then f (k * 2 + 1) else if i = k * 2 then f (k * 2) else upto (k * 2) f i) = upto ((k + 1) * 2) f i := by
  unfold upto
  by_cases h1 : i = k * 2 + 1
  · subst h1
    rw [if_pos rfl, if_pos (by omega)]
  · rw [if_neg h1]
    by_cases h2 : i = k * 2
    · subst h2
      rw [if_pos rfl, if_pos (by omega)]
    · rw [if_neg h2]
      by_cases h3 : i < k * 2
      · rw [if_pos h3, if_pos (by omega)]
      · rw [if_neg h3, if_neg (by omega)]

set_option maxRecDepth 100000 in
set_option maxHeartbeats 2000000 in
theorem binsOf_err (A : Option Addr) (n c : Nat) (g : Nat → Int × Int) (E : Int) (hE : smE n g = E) (h0 : E ≠ 0) (w : World) (hn : n ≤ 1000000000) (hA : GA w A n g) :
    Calls Try.prog 73 #[.slice A n c] w fun e w' => e = .returned (.tuple #[.agg #[.int .i64 0, .int .i64 0, .int .i64 0, .int .i64 0, .int .i64 0, .int .i64 0, .int .i64 0, .int .i64 0], .int .i64 E]) ∧ Below w.heap.size w w' := by
  have HSC := Lib.hid (fun W (hW : Below w.heap.size w W) => samplesCheck_chk A n c g W hn (hA.bel hW))
  rw [hE] at HSC
  have hq : (E != 0) = true := by simpa using h0
  clear h0 hA hE
  go_enter Try.func73, Try.ntmps73
  go_wp2_with (first
        | (go_at_call 108; (with_reducible refine Calls.mono (HSC.out _ (by have Bq := Below.refl w.heap.size w; (repeat (first | with_reducible exact Below.refl _ _ | with_reducible assumption | with_reducible refine Below.alloc ?_ (by first | (simp; done) | (simp; omega) | omega) _ | with_reducible refine Below.setCell ?_ (by first | (simp; done) | (simp; omega) | omega) _ | with_reducible refine Below.drew ?_ | with_reducible refine below_drewN ?_ _)))) ?_); rintro e y1 ⟨v0, rfl, hb1, g0, f0, rfl, hg0, hh0⟩; have heg : ∀ args w, (callFunc g0 args).run Try.prog w = .ok (.enter g0 args) w := hg0; have K0 := Lib.hid hh0; have BV := Lib.hid (belowT (show Below w.heap.size w _ by (repeat (first | with_reducible exact Below.refl _ _ | with_reducible assumption | with_reducible refine Below.alloc ?_ (by first | (simp; done) | (simp; omega) | omega) _ | with_reducible refine Below.setCell ?_ (by first | (simp; done) | (simp; omega) | omega) _ | with_reducible refine Below.drew ?_ | with_reducible refine below_drewN ?_ _))) hb1); have HR1 := Lib.hid (IM.on (w := (w.alloc (.cells #[.int .i64 0, .int .i64 0, .int .i64 0, .int .i64 0, .int .i64 0, .int .i64 0, .int .i64 0, .int .i64 0] 102)).alloc (.cells #[.int .i64 0, .int .i64 0, .int .i64 0, .int .i64 0, .int .i64 0, .int .i64 0, .int .i64 0, .int .i64 0] 102)) (n := 8) (G := w.heap.size) (f := fun _ => 0) (im8 _ _ (by simp; omega) (by simp [go_sem]) (by simp [go_sem]) (by simp [go_sem]) (by simp [go_sem]) (by simp [go_sem]) (by simp [go_sem]) (by simp [go_sem]) (by simp [go_sem]) (by intro i; simp [go_sem])) hb1); have HB1 := Lib.hid (IM.on (w := (w.alloc (.cells #[.int .i64 0, .int .i64 0, .int .i64 0, .int .i64 0, .int .i64 0, .int .i64 0, .int .i64 0, .int .i64 0] 102)).alloc (.cells #[.int .i64 0, .int .i64 0, .int .i64 0, .int .i64 0, .int .i64 0, .int .i64 0, .int .i64 0, .int .i64 0] 102)) (n := 8) (G := w.heap.size + 1) (f := fun _ => 0) (im8 _ _ (by simp) (by simp [go_sem]) (by simp [go_sem]) (by simp [go_sem]) (by simp [go_sem]) (by simp [go_sem]) (by simp [go_sem]) (by simp [go_sem]) (by simp [go_sem]) (by intro i; simp [go_sem])) hb1); clear hb1 hg0 hh0)
        | (go_at_fn g0; (with_reducible refine Calls.mono (K0.out _ (Below.refl _ _) trivial) ?_); rintro e y2 ⟨rfl, hb2⟩; replace BV := Lib.hid (belowT BV.out hb2); have HR2 := Lib.hid (HR1.out.on hb2); have HB2 := Lib.hid (HB1.out.on hb2); have r0 := (HR2.out.2 0 (by omega)).1; have r1 := (HR2.out.2 1 (by omega)).1; have r2 := (HR2.out.2 2 (by omega)).1; have r3 := (HR2.out.2 3 (by omega)).1; have r4 := (HR2.out.2 4 (by omega)).1; have r5 := (HR2.out.2 5 (by omega)).1; have r6 := (HR2.out.2 6 (by omega)).1; have r7 := (HR2.out.2 7 (by omega)).1;have rz0 := (HR2.out.2 0 (by omega)).2; have rz1 := (HR2.out.2 1 (by omega)).2; have rz2 := (HR2.out.2 2 (by omega)).2; have rz3 := (HR2.out.2 3 (by omega)).2; have rz4 := (HR2.out.2 4 (by omega)).2; have rz5 := (HR2.out.2 5 (by omega)).2; have rz6 := (HR2.out.2 6 (by omega)).2; have rz7 := (HR2.out.2 7 (by omega)).2;have b0 := (HB2.out.2 0 (by omega)).1; have b1 := (HB2.out.2 1 (by omega)).1; have b2 := (HB2.out.2 2 (by omega)).1; have b3 := (HB2.out.2 3 (by omega)).1; have b4 := (HB2.out.2 4 (by omega)).1; have b5 := (HB2.out.2 5 (by omega)).1; have b6 := (HB2.out.2 6 (by omega)).1; have b7 := (HB2.out.2 7 (by omega)).1; clear hb2))
  refine bodyPost_ret (v := .tuple #[.agg #[.int .i64 0, .int .i64 0, .int .i64 0, .int .i64 0, .int .i64 0, .int .i64 0, .int .i64 0, .int .i64 0], .int .i64 E]) (by simp [results, Try.results73, go_sem, *]) rfl ⟨rfl, by have Bq := BV.out; (repeat (first | with_reducible exact Below.refl _ _ | with_reducible assumption | with_reducible refine Below.alloc ?_ (by first | (simp; done) | (simp; omega) | omega) _ | with_reducible refine Below.setCell ?_ (by first | (simp; done) | (simp; omega) | omega) _ | with_reducible refine Below.drew ?_ | with_reducible refine below_drewN ?_ _))⟩
set_option maxRecDepth 100000 in
set_option maxHeartbeats 4000000 in
theorem binsOf_ok (A : Option Addr) (n c : Nat) (g : Nat → Int × Int) (hE : smE n g = 0) (w : World) (hA : GA w A n g) :
    Calls Try.prog 73 #[.slice A n c] w fun e w' => e = .returned (.tuple #[.agg #[.int .i64 (bnS 0 g n).1, .int .i64 (bnS 0 g n).2, .int .i64 (bnS (-1) g n).1, .int .i64 (bnS (-1) g n).2, .int .i64 (bnS (-2) g n).1, .int .i64 (bnS (-2) g n).2, .int .i64 (bnS (-3) g n).1, .int .i64 (bnS (-3) g n).2], .int .i64 0]) ∧ Below w.heap.size w w' := by
  obtain ⟨hn, hg⟩ := sm_0 hE
  have HSC := Lib.hid (fun W (hW : Below w.heap.size w W) => samplesCheck_chk A n c g W (by omega) (hA.bel hW))
  rw [hE] at HSC
  have HBN := Lib.hid (fun (k : Nat) (hk : k < 4) W (hW : Below w.heap.size w W) => bin_any A n c g k W hn (hA.bel hW) (by omega) (by omega) (fun i hi => by have := hg i hi; omega))
  clear hA hE hg
  go_enter Try.func73, Try.ntmps73
  go_wp2_with (first
        | (go_at_call 108; (with_reducible refine Calls.mono (HSC.out _ (by have Bq := Below.refl w.heap.size w; (repeat (first | with_reducible exact Below.refl _ _ | with_reducible assumption | with_reducible refine Below.alloc ?_ (by first | (simp; done) | (simp; omega) | omega) _ | with_reducible refine Below.setCell ?_ (by first | (simp; done) | (simp; omega) | omega) _ | with_reducible refine Below.drew ?_ | with_reducible refine below_drewN ?_ _)))) ?_); rintro e y1 ⟨v0, rfl, hb1, g0, f0, rfl, hg0, hh0⟩; have heg : ∀ args w, (callFunc g0 args).run Try.prog w = .ok (.enter g0 args) w := hg0; have K0 := Lib.hid hh0; have BV := Lib.hid (belowT (show Below w.heap.size w _ by (repeat (first | with_reducible exact Below.refl _ _ | with_reducible assumption | with_reducible refine Below.alloc ?_ (by first | (simp; done) | (simp; omega) | omega) _ | with_reducible refine Below.setCell ?_ (by first | (simp; done) | (simp; omega) | omega) _ | with_reducible refine Below.drew ?_ | with_reducible refine below_drewN ?_ _))) hb1); have HR1 := Lib.hid (IM.on (w := (w.alloc (.cells #[.int .i64 0, .int .i64 0, .int .i64 0, .int .i64 0, .int .i64 0, .int .i64 0, .int .i64 0, .int .i64 0] 102)).alloc (.cells #[.int .i64 0, .int .i64 0, .int .i64 0, .int .i64 0, .int .i64 0, .int .i64 0, .int .i64 0, .int .i64 0] 102)) (n := 8) (G := w.heap.size) (f := fun _ => 0) (im8 _ _ (by simp; omega) (by simp [go_sem]) (by simp [go_sem]) (by simp [go_sem]) (by simp [go_sem]) (by simp [go_sem]) (by simp [go_sem]) (by simp [go_sem]) (by simp [go_sem]) (by intro i; simp [go_sem])) hb1); have HB1 := Lib.hid (IM.on (w := (w.alloc (.cells #[.int .i64 0, .int .i64 0, .int .i64 0, .int .i64 0, .int .i64 0, .int .i64 0, .int .i64 0, .int .i64 0] 102)).alloc (.cells #[.int .i64 0, .int .i64 0, .int .i64 0, .int .i64 0, .int .i64 0, .int .i64 0, .int .i64 0, .int .i64 0] 102)) (n := 8) (G := w.heap.size + 1) (f := fun _ => 0) (im8 _ _ (by simp) (by simp [go_sem]) (by simp [go_sem]) (by simp [go_sem]) (by simp [go_sem]) (by simp [go_sem]) (by simp [go_sem]) (by simp [go_sem]) (by simp [go_sem]) (by intro i; simp [go_sem])) hb1); clear hb1 hg0 hh0)
        | (go_at_fn g0; (with_reducible refine Calls.mono (K0.out _ (Below.refl _ _) trivial) ?_); rintro e y2 ⟨rfl, hb2⟩; replace BV := Lib.hid (belowT BV.out hb2); have HR2 := Lib.hid (HR1.out.on hb2); have HB2 := Lib.hid (HB1.out.on hb2);  clear hb2))
  go_loopw [6, 14] (fun s6 s14 wr => ∃ k : Nat, k ≤ 4 ∧ s14 = .int .i64 k ∧ Below w.heap.size w wr ∧ Hid (IM wr (w.heap.size + 1) 8 (upto (k * 2) (bnF g n))) ∧ Hid (IM wr w.heap.size 8 (fun _ => 0))) (fun _ i _ => 4 - (intOf i).toNat)
  case atStart => exact ⟨0, by omega, rfl, BV.out, HB2.out.same (fun i _ => by simp [upto]), HR2.out⟩
  case round =>
    obtain ⟨k, hk, rfl, hbel, HI, HR⟩ := hrel
    have HB := Lib.hid hbel
    clear hbel
    by_cases hlt : k < 4
    · have hT := HBN.out k hlt _ HB.out
      have HT2 := Lib.hid hT
      have p1 : (0 : Int) ≤ (k : Int) := by omega
      have p2 : (k : Int) < 4 := by omega
      have hF0 := bnF_0 g n k
      have hF1 := bnF_1 g n k
      have HF := Lib.hid (And.intro hF0 hF1)
      clear hT hF0 hF1
      generalize hX : (bnS (-(k : Int)) g n).1 = X at *
      generalize hY : (bnS (-(k : Int)) g n).2 = Y at *
      go_wp2_with (go_at_call 121; (with_reducible refine Calls.mono HT2.out ?_); rintro e z1 ⟨rfl, hz⟩; have HI2 := Lib.hid (HI.out.on hz); have c0 := (HI2.out.2 (k * 2) (by omega)).1; have c1 := (HI2.out.2 (k * 2 + 1) (by omega)).1; have d0 := (HI2.out.2 (k * 2) (by omega)).2; have d1 := (HI2.out.2 (k * 2 + 1) (by omega)).2; have HR2 := Lib.hid (HR.out.on hz); have HB2 := Lib.hid (belowT HB.out hz); clear hz)
      go_roundw
      case rel =>
        refine ⟨k + 1, by omega, by go_num, (HB2.out.setCell (by simp) _).setCell (by simp) _, ((HI2.out.set (k := k * 2) (by omega) X).set (k := k * 2 + 1) (by omega) Y).same (fun i _ => ?_), ⟨by simpa using HR2.out.1, fun i hi => ⟨?_, ?_⟩⟩⟩
        · rw [← bn_step (bnF g n) k i, HF.out.1, HF.out.2]
        · exact (World.cell?_setCell_far _ _ _ _ (by simp)).trans ((World.cell?_setCell_far _ _ _ _ (by simp)).trans (HR2.out.2 i hi).1)
        · exact (World.frozen?_setCell _ _ _ _).trans ((World.frozen?_setCell _ _ _ _).trans (HR2.out.2 i hi).2)
      case measure => simp [intOf]; omega
    · obtain rfl : k = 4 := by omega
      have b0 := (HI.out.2 0 (by omega)).1; have r0 := (HR.out.2 0 (by omega)).1; have rz0 := (HR.out.2 0 (by omega)).2; have b1 := (HI.out.2 1 (by omega)).1; have r1 := (HR.out.2 1 (by omega)).1; have rz1 := (HR.out.2 1 (by omega)).2; have b2 := (HI.out.2 2 (by omega)).1; have r2 := (HR.out.2 2 (by omega)).1; have rz2 := (HR.out.2 2 (by omega)).2; have b3 := (HI.out.2 3 (by omega)).1; have r3 := (HR.out.2 3 (by omega)).1; have rz3 := (HR.out.2 3 (by omega)).2; have b4 := (HI.out.2 4 (by omega)).1; have r4 := (HR.out.2 4 (by omega)).1; have rz4 := (HR.out.2 4 (by omega)).2; have b5 := (HI.out.2 5 (by omega)).1; have r5 := (HR.out.2 5 (by omega)).1; have rz5 := (HR.out.2 5 (by omega)).2; have b6 := (HI.out.2 6 (by omega)).1; have r6 := (HR.out.2 6 (by omega)).1; have rz6 := (HR.out.2 6 (by omega)).2; have b7 := (HI.out.2 7 (by omega)).1; have r7 := (HR.out.2 7 (by omega)).1; have rz7 := (HR.out.2 7 (by omega)).2
      rw [show upto (4 * 2) (bnF g n) 0 = (bnS 0 g n).1 from rfl] at b0; rw [show upto (4 * 2) (bnF g n) 1 = (bnS 0 g n).2 from rfl] at b1; rw [show upto (4 * 2) (bnF g n) 2 = (bnS (-1) g n).1 from rfl] at b2; rw [show upto (4 * 2) (bnF g n) 3 = (bnS (-1) g n).2 from rfl] at b3; rw [show upto (4 * 2) (bnF g n) 4 = (bnS (-2) g n).1 from rfl] at b4; rw [show upto (4 * 2) (bnF g n) 5 = (bnS (-2) g n).2 from rfl] at b5; rw [show upto (4 * 2) (bnF g n) 6 = (bnS (-3) g n).1 from rfl] at b6; rw [show upto (4 * 2) (bnF g n) 7 = (bnS (-3) g n).2 from rfl] at b7
      generalize hv0 : (bnS 0 g n).1 = v0 at *; generalize hv1 : (bnS 0 g n).2 = v1 at *; generalize hv2 : (bnS (-1) g n).1 = v2 at *; generalize hv3 : (bnS (-1) g n).2 = v3 at *; generalize hv4 : (bnS (-2) g n).1 = v4 at *; generalize hv5 : (bnS (-2) g n).2 = v5 at *; generalize hv6 : (bnS (-3) g n).1 = v6 at *; generalize hv7 : (bnS (-3) g n).2 = v7 at *
      go_wp2
      refine bodyPost_ret (v := .tuple #[.agg #[.int .i64 v0, .int .i64 v1, .int .i64 v2, .int .i64 v3, .int .i64 v4, .int .i64 v5, .int .i64 v6, .int .i64 v7], .int .i64 0]) (by simp [results, Try.results73, go_sem, *]) rfl ⟨rfl, by have Bq := HB.out; (repeat (first | with_reducible exact Below.refl _ _ | with_reducible assumption | with_reducible refine Below.alloc ?_ (by first | (simp; done) | (simp; omega) | omega) _ | with_reducible refine Below.setCell ?_ (by first | (simp; done) | (simp; omega) | omega) _ | with_reducible refine Below.drew ?_ | with_reducible refine below_drewN ?_ _))⟩

end Go.Proofs.Ytpkacfgmojblbaa
namespace Go.Proofs.Ytpkacfgmojblbaa
open Go.RowKit
attribute [local go_sem] old1 fro1 old2 fro2 old3 fro3 old4 fro4 old5 fro5 old6 fro6 old7 fro7 old8 fro8 old9 fro9 old10 fro10 old11 fro11 old12 fro12
def ml0 : List Bool := [false, false, true, true, true, true, true, true, true, true, true, true, true, true, true]
/-- the samples of a packet -/
def pkG (p : Nat → Int) (i : Nat) : Int × Int := (p (2 + i * 2), p (2 + i * 2 + 1))
def pkE (p : Nat → Int) : Int := if rgE (p 0) 0 1023 = 0 then (if rgE (p 1) 1 100 = 0 then ferr (fun i => ptE 2000 (pkG p i)) 0 8 else rgE (p 1) 1 100) else rgE (p 0) 0 1023
theorem pk_0 {p : Nat → Int} (h : pkE p = 0) : (0 ≤ p 0 ∧ p 0 ≤ 1023) ∧ (1 ≤ p 1 ∧ p 1 ≤ 100) ∧ ∀ i, i < 8 → (-2000 ≤ (pkG p i).1 ∧ (pkG p i).1 ≤ 2000) ∧ -2000 ≤ (pkG p i).2 ∧ (pkG p i).2 ≤ 2000 := by
  unfold pkE at h
  by_cases h1 : rgE (p 0) 0 1023 = 0
  · rw [if_pos h1] at h
    by_cases h2 : rgE (p 1) 1 100 = 0
    · rw [if_pos h2] at h
      exact ⟨rg_0 h1, rg_0 h2, fun i hi => pt_0 (ferr_all 8 0 h i (by omega) (by omega))⟩
    · rw [if_neg h2] at h; exact absurd h h2
  · rw [if_neg h1] at h; exact absurd h h1

set_option maxRecDepth 100000 in
set_option maxHeartbeats 2000000 in
theorem checkPacket_any (p : Nat → Int) (w : World) :
    Calls Try.prog 19 #[.agg (pk p)] w fun e w' => e = .returned (.int .i64 (pkE p)) ∧ Below w.heap.size w w' := by
  go_enter Try.func19, Try.ntmps19
  go_wp2_with fail
  have hbw : Below w.heap.size w (w.alloc (.cells (pk p) 26)) := by (repeat (first | with_reducible exact Below.refl _ _ | with_reducible assumption | with_reducible refine Below.alloc ?_ (by first | (simp; done) | (simp; omega) | omega) _ | with_reducible refine Below.setCell ?_ (by first | (simp; done) | (simp; omega) | omega) _ | with_reducible refine Below.drew ?_ | with_reducible refine below_drewN ?_ _))
  have HP := Lib.hid (fun (j : Nat) (h : j < 18) => pk_cell w p 26 j h)
  have hsz : w.heap.size < (w.alloc (.cells (pk p) 26)).heap.size := by simp
  generalize (w.alloc (.cells (pk p) 26)) = w1 at *
  have p0 := HP.out 0 (by omega)
  have p1 := HP.out 1 (by omega)
  have HG := Lib.hid (show GA w1 (some ⟨w.heap.size, 2, none⟩) 8 (pkG p) from fun _ => ⟨_, _, rfl, fun i hi => ⟨HP.out (2 + i * 2) (by omega), HP.out (2 + i * 2 + 1) (by omega)⟩⟩)
  refine wp_region_mp [mpEq (.pointer (some ⟨w.heap.size, 0, none⟩)), mpEq (.int .i64 (p 0)), mpChk (True) (rgE (p 0) 0 1023), mpEq (.pointer (some ⟨w.heap.size, 1, none⟩)), mpEq (.int .i64 (p 1)), mpChk (True) (rgE (p 1) 1 100), mpEq (.pointer (some ⟨w.heap.size, 2, none⟩)), mpEq (.slice (some ⟨w.heap.size, 2, none⟩) 8 8), mpItm (gv) (ptE 2000), mpChk (True) (ferr (fun i => ptE 2000 (pkG p i)) 0 8), mpChks 3 (fun i => if i = 0 then rgE (p 0) 0 1023 else if i = 1 then rgE (p 1) 1 100 else ferr (fun i => ptE 2000 (pkG p i)) 0 8), mpEq (.int .i64 (pkE p)), mpEq (.int .i64 (pkE p))] ml0 (by kernel_rfl) (by kernel_rfl) (by kernel_rfl) (
      allOps_cons (fun a' w' hb hs hd => rg_op fun K hK => by
    have e0 := (hs.get 1 (by kernel_rfl)).trans (show _ = .pointer (some ⟨w.heap.size, 0, none⟩) from rfl)
    have ec : ∀ v, a'.eval (.const v) = v := fun _ => rfl
    clear hs hd
    unfold Oper.wp
    generalize a'.eval = ρ at e0 ec ⊢
    simp [go_sem, e0]
    exact hK _ _ (Below.refl _ _) rfl) <|
      allOps_cons (fun a' w' hb hs hd => rg_op fun K hK => by
    have e0 := (show a'.eval (.tmp 3) = .pointer (some ⟨w.heap.size, 0, none⟩) from hd.get 0 3 (by kernel_rfl) (by kernel_rfl))
    have ec : ∀ v, a'.eval (.const v) = v := fun _ => rfl
    have c0 := keep hb p0
    clear hs hd
    unfold Oper.wp
    generalize a'.eval = ρ at e0 ec ⊢
    simp [go_sem, e0, c0]
    exact hK _ _ (Below.refl _ _) rfl) <|
      allOps_cons (fun a' w' hb hs hd => by
    exact rg_fn (φ := (mpChk (True) (rgE (p 0) 0 1023)).p) (vs := #[.int .i64 (p 0), .int .i64 0, .int .i64 1023]) rfl (enters_of Try.func88 (by kernel_rfl) rfl) (by simp [(show a'.eval (.tmp 4) = .int .i64 (p 0) from hd.get 1 4 (by kernel_rfl) (by kernel_rfl)), (show a'.eval (.const (.int .i64 0)) = .int .i64 0 from rfl), (show a'.eval (.const (.int .i64 1023)) = .int .i64 1023 from rfl)]) (range_chk (p 0) 0 1023 w')) <|
      allOps_cons (fun a' w' hb hs hd => rg_op fun K hK => by
    have e0 := (hs.get 1 (by kernel_rfl)).trans (show _ = .pointer (some ⟨w.heap.size, 0, none⟩) from rfl)
    have ec : ∀ v, a'.eval (.const v) = v := fun _ => rfl
    clear hs hd
    unfold Oper.wp
    generalize a'.eval = ρ at e0 ec ⊢
    simp [go_sem, e0]
    exact hK _ _ (Below.refl _ _) rfl) <|
      allOps_cons (fun a' w' hb hs hd => rg_op fun K hK => by
    have e0 := (show a'.eval (.tmp 6) = .pointer (some ⟨w.heap.size, 1, none⟩) from hd.get 3 6 (by kernel_rfl) (by kernel_rfl))
    have ec : ∀ v, a'.eval (.const v) = v := fun _ => rfl
    have c0 := keep hb p1
    clear hs hd
    unfold Oper.wp
    generalize a'.eval = ρ at e0 ec ⊢
    simp [go_sem, e0, c0]
    exact hK _ _ (Below.refl _ _) rfl) <|
      allOps_cons (fun a' w' hb hs hd => by
    exact rg_fn (φ := (mpChk (True) (rgE (p 1) 1 100)).p) (vs := #[.int .i64 (p 1), .int .i64 1, .int .i64 100]) rfl (enters_of Try.func88 (by kernel_rfl) rfl) (by simp [(show a'.eval (.tmp 7) = .int .i64 (p 1) from hd.get 4 7 (by kernel_rfl) (by kernel_rfl)), (show a'.eval (.const (.int .i64 1)) = .int .i64 1 from rfl), (show a'.eval (.const (.int .i64 100)) = .int .i64 100 from rfl)]) (range_chk (p 1) 1 100 w')) <|
      allOps_cons (fun a' w' hb hs hd => rg_op fun K hK => by
    have e0 := (hs.get 1 (by kernel_rfl)).trans (show _ = .pointer (some ⟨w.heap.size, 0, none⟩) from rfl)
    have ec : ∀ v, a'.eval (.const v) = v := fun _ => rfl
    clear hs hd
    unfold Oper.wp
    generalize a'.eval = ρ at e0 ec ⊢
    simp [go_sem, e0]
    exact hK _ _ (Below.refl _ _) rfl) <|
      allOps_cons (fun a' w' hb hs hd => rg_op fun K hK => by
    have e0 := (show a'.eval (.tmp 9) = .pointer (some ⟨w.heap.size, 2, none⟩) from hd.get 6 9 (by kernel_rfl) (by kernel_rfl))
    clear hs hd
    unfold Oper.wp
    generalize a'.eval = ρ at e0 ⊢
    simp [go_sem, e0]
    exact hK _ _ (Below.refl _ _) rfl) <|
      allOps_cons (fun a' w' hb hs hd => by
    exact rg_fn (φ := (mpItm (gv) (ptE 2000)).p) (vs := #[.int .i64 2000]) rfl (enters_of Try.func91 (by kernel_rfl) rfl) (by simp [(show a'.eval (.const (.int .i64 2000)) = .int .i64 2000 from rfl)]) (parts_itm 2000 w' (by omega))) <|
      allOps_cons (fun a' w' hb hs hd => by
    exact rg_fn (φ := (mpChk (True) (ferr (fun i => ptE 2000 (pkG p i)) 0 8)).p) (vs := #[.slice (some ⟨w.heap.size, 2, none⟩) 8 8, a'.eval (.tmp 11)]) rfl (enters_of Try.func90 (by kernel_rfl) rfl) (by simp [(show a'.eval (.tmp 10) = .slice (some ⟨w.heap.size, 2, none⟩) 8 8 from hd.get 7 10 (by kernel_rfl) (by kernel_rfl))]) ((eachG_chk _ 8 8 (pkG p) (ptE 2000) _ w' (by omega) (HG.out.bel hb) (show Itm gv (ptE 2000) (a'.eval (.tmp 11)) w' from hd.get 8 11 (by kernel_rfl) (by kernel_rfl))))) <|
      allOps_cons (fun a' w' hb hs hd => rg_op fun K hK => by
    have k0 : (mpChk (True) (rgE (p 0) 0 1023)).p (a'.eval (.tmp 5)) w' := hd.get 2 5 (by kernel_rfl) (by kernel_rfl)
    have k1 : (mpChk (True) (rgE (p 1) 1 100)).p (a'.eval (.tmp 8)) w' := hd.get 5 8 (by kernel_rfl) (by kernel_rfl)
    have k2 : (mpChk (True) (ferr (fun i => ptE 2000 (pkG p i)) 0 8)).p (a'.eval (.tmp 12)) w' := hd.get 9 12 (by kernel_rfl) (by kernel_rfl)
    clear hs hd
    unfold Oper.wp
    generalize a'.eval = ρ at k0 k1 k2 ⊢
    obtain ⟨g0, f0, e0, h0⟩ := k0
    obtain ⟨g1, f1, e1, h1⟩ := k1
    obtain ⟨g2, f2, e2, h2⟩ := k2
    simp [go_sem, e0, e1, e2]
    have hx := (Below.refl w'.heap.size w').alloc (Nat.le_refl _) (.cells #[.func (.func g0) #[] f0, .func (.func g1) #[] f1, .func (.func g2) #[] f2] 121)
    refine hK _ _ hx ⟨_, rfl, fun i => if i = 0 then .func (.func g0) #[] f0 else if i = 1 then .func (.func g1) #[] f1 else .func (.func g2) #[] f2, fun i hi => ?_, fun i hi => ?_⟩
    · rcases (by omega : i = 0 ∨ i = 1 ∨ i = 2) with rfl | rfl | rfl <;> simp [go_sem]
    · rcases (by omega : i = 0 ∨ i = 1 ∨ i = 2) with rfl | rfl | rfl
      · exact Chk.imp (Chk.on (show Chk (True) (rgE (p 0) 0 1023) (.func (.func g0) #[] f0) w' from ⟨g0, f0, rfl, h0⟩) hx) (fun _ => trivial)
      · exact Chk.imp (Chk.on (show Chk (True) (rgE (p 1) 1 100) (.func (.func g1) #[] f1) w' from ⟨g1, f1, rfl, h1⟩) hx) (fun _ => trivial)
      · exact Chk.imp (Chk.on (show Chk (True) (ferr (fun i => ptE 2000 (pkG p i)) 0 8) (.func (.func g2) #[] f2) w' from ⟨g2, f2, rfl, h2⟩) hx) (fun _ => trivial)) <|
      allOps_cons (fun a' w' hb hs hd => by
    exact rg_fn (φ := (mpEq (.int .i64 (pkE p))).p) (vs := #[a'.eval (.tmp 13)]) rfl (enters_of Try.func87 (by kernel_rfl) rfl) (by simp) ((first_chks (n := 3) (er := (fun i => if i = 0 then rgE (p 0) 0 1023 else if i = 1 then rgE (p 1) 1 100 else ferr (fun i => ptE 2000 (pkG p i)) 0 8)) (by omega) (by omega) (hd.get 10 13 (by kernel_rfl) (by kernel_rfl))).mono (by rintro e w1 ⟨rfl, h1⟩; exact ⟨_, rfl, h1, congrArg (Value.int .i64) (ferr_3 _ _ _)⟩))) <|
      allOps_cons (fun a' w' hb hs hd => rg_op fun K hK => by
    have e0 := (show a'.eval (.tmp 14) = .int .i64 (pkE p) from hd.get 11 14 (by kernel_rfl) (by kernel_rfl))
    have ec : ∀ v, a'.eval (.const v) = v := fun _ => rfl
    clear hs hd
    unfold Oper.wp
    generalize a'.eval = ρ at e0 ec ⊢
    simp [go_sem, e0]
    exact hK _ _ (Below.refl _ _) rfl) <| allOps_nil) (fun V w2 hb2 hall => ?_)
  have h2 : V 2 = .int .i64 (pkE p) := hall.get 12 rfl
  clear hall
  simp only [ml0, maskPut, Nat.reduceAdd]
  rw [h2]
  clear h2
  go_wp2_with fail
  go_ret
  exact ⟨rfl, belowT hbw hb2⟩
theorem checkPacket_itm (w : World) : Itm pw pkE (.func (.func 19) #[] #[]) w :=
  ⟨_, _, rfl, (enters_of Try.func19 (by kernel_rfl) rfl), fun p w1 _ => checkPacket_any p w1⟩
/-- the full counter that is closest -/
def uwr (near c : Int) : Int := if 0 ≤ near + (c - near) % 1024 - 1024 ∧ near - (near + (c - near) % 1024 - 1024) < near + (c - near) % 1024 - near then near + (c - near) % 1024 - 1024 else near + (c - near) % 1024
theorem uwr_bd (near c : Int) : near - 1024 < uwr near c ∧ uwr near c ≤ near + 1023 ∧ (0 ≤ near → 0 ≤ uwr near c) := by
  unfold uwr
  split <;> omega
set_option maxRecDepth 100000 in
set_option maxHeartbeats 2000000 in
theorem unwrapped_any (near c : Int) (n1 : 0 ≤ near) (n2 : near ≤ 1000000000000000) (c1 : 0 ≤ c) (c2 : c ≤ 1023) (w : World) :
    Calls Try.prog 89 #[.int .i64 near, .int .i64 c] w fun e w' => e = .returned (.int .i64 (uwr near c)) ∧ w = w' := by
  have HM := fun W => Lib.hid (modulo_any (c - near) 1024 (by omega) (by omega) (by omega) (by omega) W)
  have h0 := Int.emod_nonneg (c - near) (show (1024 : Int) ≠ 0 by decide)
  have h1 := Int.emod_lt_of_pos (c - near) (show (0 : Int) < 1024 by decide)
  have x0 : IntKind.i64.wrap (c - near) = c - near := IntWalk.i64_in _ (by omega)
  have hU : uwr near c = if 0 ≤ near + (c - near) % 1024 - 1024 ∧ near - (near + (c - near) % 1024 - 1024) < near + (c - near) % 1024 - near then near + (c - near) % 1024 - 1024 else near + (c - near) % 1024 := rfl
  generalize (c - near) % 1024 = m at *
  have x1 : IntKind.i64.wrap (near + m) = near + m := IntWalk.i64_in _ (by omega)
  obtain ⟨af, haf⟩ : ∃ af, near + m = af := ⟨_, rfl⟩
  rw [haf] at x1 hU
  have x2 : IntKind.i64.wrap (af - 1024) = af - 1024 := IntWalk.i64_in _ (by omega)
  have x3 : IntKind.i64.wrap (near - (af - 1024)) = near - (af - 1024) := IntWalk.i64_in _ (by omega)
  have x4 : IntKind.i64.wrap (af - near) = af - near := IntWalk.i64_in _ (by omega)
  have HU := Lib.hid hU
  clear h0 h1 hU
  go_enter Try.func89, Try.ntmps89
  go_wp2_with (go_at_call 102; (with_reducible refine Calls.mono (HM _).out ?_); rintro e w1 ⟨rfl, rfl⟩)
  all_goals
    go_ret
    exact ⟨ret_int (by rw [HU.out]; split <;> omega), rfl⟩
/-- the least and the greatest of the first k + 1 numbers -/
def loN (f : Nat → Int) : Nat → Int
  | 0 => f 0
  | k + 1 => min (loN f k) (f (k + 1))
def hiN (f : Nat → Int) : Nat → Int
  | 0 => f 0
  | k + 1 => max (hiN f k) (f (k + 1))

set_option maxRecDepth 100000 in
set_option maxHeartbeats 800000 in
theorem min_any (A : Option Addr) (n c : Nat) (xs : Nat → Int) (w : World) (h0 : 0 < n) (hn : n ≤ 1000000) (hA : IA w A n xs) :
    Calls Try.prog 135 #[.slice A n c] w fun e w' => e = .returned (.int .i64 (loN xs (n - 1))) ∧ w = w' := by
  obtain ⟨b, off, rfl, hA2⟩ := hA h0
  have z0 := hA2 0 h0
  have HA := Lib.hid hA2
  have hnd : decide ((n : Int) < 1) = false := decide_eq_false (by omega)
  rw [Nat.add_zero] at z0
  clear hA hA2
  go_enter Try.func135, Try.ntmps135
  go_wp2_with fail
  go_loop [3, 4] (fun s3 i => ∃ k : Nat, k < n ∧ s3 = .int .i64 (loN xs k) ∧ i = .int .i64 ((k : Int) + 1)) (fun _ i => n + 1 - (intOf i).toNat)
  case atStart => exact ⟨0, h0, rfl, rfl⟩
  case round =>
    obtain ⟨k, hk, rfl, rfl⟩ := hrel
    by_cases hlt : k + 1 < n
    · have hc := HA.out (k + 1) hlt
      have g0 : (0 : Int) ≤ (k : Int) + 1 := by omega
      have g1 : (k : Int) + 1 < (n : Int) := by omega
      have g2 : ((k : Int) + 1).toNat = k + 1 := by omega
      have g3 : IntKind.i64.wrap ((k : Int) + 1 + 1) = (k : Int) + 1 + 1 := IntWalk.i64_in _ (by omega)
      have hs : loN xs (k + 1) = min (loN xs k) (xs (k + 1)) := rfl
      generalize loN xs k = X at *
      generalize hx : xs (k + 1) = y at *
      go_wp2_with fail
      go_round
      case rel => exact ⟨k + 1, hlt, by rw [hs]; exact congrArg (Value.int .i64) (by split <;> omega), by simp⟩
      case measure => simp [intOf]; omega
    · obtain rfl : n = k + 1 := by omega
      have g1 : decide ((k : Int) + 1 < ((k + 1 : Nat) : Int)) = false := decide_eq_false (by omega)
      go_wp2_with fail
      go_ret
      exact ⟨rfl, rfl⟩
set_option maxRecDepth 100000 in
set_option maxHeartbeats 800000 in
theorem max_any (A : Option Addr) (n c : Nat) (xs : Nat → Int) (w : World) (h0 : 0 < n) (hn : n ≤ 1000000) (hA : IA w A n xs) :
    Calls Try.prog 136 #[.slice A n c] w fun e w' => e = .returned (.int .i64 (hiN xs (n - 1))) ∧ w = w' := by
  obtain ⟨b, off, rfl, hA2⟩ := hA h0
  have z0 := hA2 0 h0
  have HA := Lib.hid hA2
  have hnd : decide ((n : Int) < 1) = false := decide_eq_false (by omega)
  rw [Nat.add_zero] at z0
  clear hA hA2
  go_enter Try.func136, Try.ntmps136
  go_wp2_with fail
  go_loop [3, 4] (fun s3 i => ∃ k : Nat, k < n ∧ s3 = .int .i64 (hiN xs k) ∧ i = .int .i64 ((k : Int) + 1)) (fun _ i => n + 1 - (intOf i).toNat)
  case atStart => exact ⟨0, h0, rfl, rfl⟩
  case round =>
    obtain ⟨k, hk, rfl, rfl⟩ := hrel
    by_cases hlt : k + 1 < n
    · have hc := HA.out (k + 1) hlt
      have g0 : (0 : Int) ≤ (k : Int) + 1 := by omega
      have g1 : (k : Int) + 1 < (n : Int) := by omega
      have g2 : ((k : Int) + 1).toNat = k + 1 := by omega
      have g3 : IntKind.i64.wrap ((k : Int) + 1 + 1) = (k : Int) + 1 + 1 := IntWalk.i64_in _ (by omega)
      have hs : hiN xs (k + 1) = max (hiN xs k) (xs (k + 1)) := rfl
      generalize hiN xs k = X at *
      generalize hx : xs (k + 1) = y at *
      go_wp2_with fail
      go_round
      case rel => exact ⟨k + 1, hlt, by rw [hs]; exact congrArg (Value.int .i64) (by split <;> omega), by simp⟩
      case measure => simp [intOf]; omega
    · obtain rfl : n = k + 1 := by omega
      have g1 : decide ((k : Int) + 1 < ((k + 1 : Nat) : Int)) = false := decide_eq_false (by omega)
      go_wp2_with fail
      go_ret
      exact ⟨rfl, rfl⟩
end Go.Proofs.Ytpkacfgmojblbaa
