/- Helpers: one bin in package sample; the reference's bound of a norm; numbers divided and rounded down. No condition but the bounds that each theorem names. -/
import Derived.Test.YtpkacfgmojblbaaB19
import Derived.Test.YtpkacfgmojblbaaB15
namespace Go.Proofs.Ytpkacfgmojblbaa
open Go.RowKit
attribute [local go_sem] old1 fro1 old2 fro2 old3 fro3 old4 fro4 old5 fro5 old6 fro6 old7 fro7 old8 fro8 old9 fro9 old10 fro10 old11 fro11 old12 fro12
set_option maxRecDepth 100000 in
set_option maxHeartbeats 800000 in
theorem bfloorI_any (n d : Int) (hd : 0 < d) (d2 : d ≤ 1000000000) (h1 : -4000000000000000000 ≤ n) (h2 : n ≤ 4000000000000000000) (w : World) :
    Calls Try.prog 104 #[.int .i64 n, .int .i64 d] w fun e w' => e = .returned (.int .i64 (n / d)) ∧ w = w' := by
  have hd0 : (d == 0) = false := by simp; omega
  have hb := tdiv_bd n d hd (by omega) (by omega)
  have t0 := tmod_plain n d hd
  have t1 := floor_plain n d hd
  have t2 := Int.tdiv_mul_add_tmod n d
  have t3 := Int.emod_nonneg n (show d ≠ 0 by omega)
  have t4 := Int.emod_lt_of_pos n hd
  have x0 : IntKind.i64.wrap (n.tdiv d) = n.tdiv d := IntWalk.i64_in _ (by omega)
  have x1 : IntKind.i64.wrap (n.tmod d) = n.tmod d := IntWalk.i64_in _ (by omega)
  have x2 : IntKind.i64.wrap (n.tdiv d - 1) = n.tdiv d - 1 := IntWalk.i64_in _ (by omega)
  have x3 : wrap64 (n / d) = n / d := IntWalk.wrap64_in _ (by omega)
  by_cases hm : n.tmod d < 0
  · have e : n.tdiv d - 1 = n / d := by rcases t1 with ⟨a, b⟩ | ⟨a, b⟩ <;> omega
    clear t0 t1 t2 t3 t4 hb
    go_enter Try.func104, Try.ntmps104
    go_wp2
    go_ret
    exact ⟨ret_int (by first | exact e | omega), rfl⟩
  · have e : n.tdiv d = n / d := by rcases t1 with ⟨a, b⟩ | ⟨a, b⟩ <;> omega
    clear t0 t1 t2 t3 t4 hb
    go_enter Try.func104, Try.ntmps104
    go_wp2
    go_ret
    exact ⟨ret_int (by first | exact e | omega), rfl⟩
set_option maxRecDepth 100000 in
set_option maxHeartbeats 800000 in
theorem bceil_any (n d : Int) (hd : 0 < d) (d2 : d ≤ 1000000000) (h1 : -4000000000000000000 ≤ n) (h2 : n ≤ 4000000000000000000) (w : World) :
    Calls Try.prog 124 #[.int .i64 n, .int .i64 d] w fun e w' => e = .returned (.int .i64 (-(-n / d))) ∧ Below w.heap.size w w' := by
  have x1 : IntKind.i64.wrap (-n) = -n := IntWalk.i64_in _ (by omega)
  have HF := Lib.hid (fun W => bfloorI_any (-n) d hd d2 (by omega) (by omega) W)
  have hb : -4611686018427387905 ≤ -n / d ∧ -n / d ≤ 4611686018427387904 := by
    have h3 := tdiv_bd (-n) d hd (by omega) (by omega)
    have h4 := floor_plain (-n) d hd
    rcases h4 with ⟨_, h⟩ | ⟨_, h⟩ <;> omega
  have x2 : IntKind.i64.wrap (-(-n / d)) = -(-n / d) := IntWalk.i64_in _ (by omega)
  clear hb
  generalize -n / d = q at *
  go_enter Try.func124, Try.ntmps124
  go_wp2_with (go_at_call 104; (with_reducible refine Calls.mono (HF.out _) ?_); rintro e w1 ⟨rfl, rfl⟩)
  go_ret
  exact ⟨rfl, by (repeat (first | with_reducible exact Below.refl _ _ | with_reducible assumption | with_reducible refine Below.alloc ?_ (by first | (simp; done) | (simp; omega) | omega) _ | with_reducible refine Below.setCell ?_ (by first | (simp; done) | (simp; omega) | omega) _ | with_reducible refine Below.drew ?_ | with_reducible refine below_drewN ?_ _))⟩
set_option maxRecDepth 100000 in
set_option maxHeartbeats 800000 in
theorem minimumNormR_any (am ct : Int) (a1 : 0 ≤ am) (a2 : am ≤ 2000) (c1 : 0 ≤ ct) (c2 : ct ≤ 400) (w : World) :
    Calls Try.prog 81 #[.int .i64 am, .int .i64 ct] w fun e w' => e = .returned (.int .i64 (mnV am ct)) ∧ Below w.heap.size w w' := by
  have m1 := mbd (a := ct) (b := ct) (A := 400) (B := 400) (by omega) (by omega) (by omega) (by omega)
  have m2 := mbd (a := ct * ct) (b := am) (A := 160000) (B := 2000) (by omega) (by omega) (by omega) (by omega)
  have m3 := mbd (a := ct * ct * am) (b := am) (A := 320000000) (B := 2000) (by omega) (by omega) (by omega) (by omega)
  have x1 : IntKind.i64.wrap (ct * ct) = ct * ct := IntWalk.i64_in _ (by omega)
  have x2 : IntKind.i64.wrap (ct * ct * am) = ct * ct * am := IntWalk.i64_in _ (by omega)
  have x3 : IntKind.i64.wrap (ct * ct * am * am) = ct * ct * am * am := IntWalk.i64_in _ (by omega)
  have HC := Lib.hid (fun W => bceil_any (ct * ct * am * am) 2 (by omega) (by omega) (by omega) (by omega) W)
  clear m1 m2 m3 a1 a2 c1 c2
  unfold mnV
  go_enter Try.func81, Try.ntmps81
  go_wp2_with (go_at_call 124; (with_reducible refine Calls.mono (HC.out _) ?_); rintro e w1 ⟨rfl, hb1⟩; have B1 := Lib.hid hb1; clear hb1)
  go_ret
  exact ⟨rfl, B1.out⟩
def boE (n : Nat) (g : Nat → Int × Int) (q : Int) : Int := fs2 (smE n g) (rgE q 0 3)
set_option maxRecDepth 100000 in
set_option maxHeartbeats 2000000 in
theorem binOfS_err (A : Option Addr) (n c : Nat) (g : Nat → Int × Int) (q E : Int) (hE : boE n g q = E) (h0 : E ≠ 0) (w : World) (hn : n ≤ 1000000000) (hA : GA w A n g) :
    Calls Try.prog 72 #[.slice A n c, .int .i64 q] w fun e w' => e = .returned (.tuple #[.agg #[.int .i64 0, .int .i64 0], .int .i64 E]) ∧ Below w.heap.size w w' := by
  have HSC := Lib.hid (fun W (hW : Below w.heap.size w W) => samplesCheck_chk A n c g W hn (hA.bel hW))
  have HQC := Lib.hid (fun W => quarterCheck_chk q W)
  have hq : (E != 0) = true := by simpa using h0
  unfold boE at hE
  clear h0 hA
  go_enter Try.func72, Try.ntmps72
  go_wp2_with (first
    | (go_at_call 108; (with_reducible refine Calls.mono (HSC.out _ (by (repeat (first | with_reducible exact Below.refl _ _ | with_reducible assumption | with_reducible refine Below.alloc ?_ (by first | (simp; done) | (simp; omega) | omega) _ | with_reducible refine Below.setCell ?_ (by first | (simp; done) | (simp; omega) | omega) _ | with_reducible refine Below.drew ?_ | with_reducible refine below_drewN ?_ _)))) ?_); rintro e yx ⟨v0, rfl, hbx, g0, f0, rfl, hg0, hh0⟩; have BV := Lib.hid (belowT (show Below w.heap.size w _ by (repeat (first | with_reducible exact Below.refl _ _ | with_reducible assumption | with_reducible refine Below.alloc ?_ (by first | (simp; done) | (simp; omega) | omega) _ | with_reducible refine Below.setCell ?_ (by first | (simp; done) | (simp; omega) | omega) _ | with_reducible refine Below.drew ?_ | with_reducible refine below_drewN ?_ _))) hbx); have r0 := keep hbx (b := w.heap.size) (o := 0) (v := .int .i64 0) (by simp [go_sem]); have r1 := keep hbx (b := w.heap.size) (o := 1) (v := .int .i64 0) (by simp [go_sem]); have z0 := (hbx.frozen (p := ⟨w.heap.size, 0, none⟩) (by simp)).trans (show _ = false by simp [go_sem]); have z1 := (hbx.frozen (p := ⟨w.heap.size, 1, none⟩) (by simp)).trans (show _ = false by simp [go_sem]); have K0 := Lib.hid (show Chk True _ (.func (.func g0) #[] f0) yx from ⟨g0, f0, rfl, hg0, hh0⟩); clear hg0 hh0; clear hbx)
    | (go_at_call 120; (with_reducible refine Calls.mono (HQC.out _) ?_); rintro e yx ⟨v1, rfl, hbx, g1, f1, rfl, hg1, hh1⟩; replace BV := Lib.hid (belowT (show Below w.heap.size w _ by have Bq := BV.out; (repeat (first | with_reducible exact Below.refl _ _ | with_reducible assumption | with_reducible refine Below.alloc ?_ (by first | (simp; done) | (simp; omega) | omega) _ | with_reducible refine Below.setCell ?_ (by first | (simp; done) | (simp; omega) | omega) _ | with_reducible refine Below.drew ?_ | with_reducible refine below_drewN ?_ _))) hbx); have r0' := r0; replace z0 := (hbx.frozen (p := ⟨w.heap.size, 0, none⟩) (by have := lt_of r0'; omega)).trans z0; replace z1 := (hbx.frozen (p := ⟨w.heap.size, 1, none⟩) (by have := lt_of r0'; omega)).trans z1; clear r0'; replace r0 := keep hbx r0; replace r1 := keep hbx r1; have K1 := Lib.hid (show Chk True _ (.func (.func g1) #[] f1) yx from ⟨g1, f1, rfl, hg1, hh1⟩); replace K0 := Lib.hid (K0.out.on hbx); clear hg1 hh1; clear hbx)
    | (go_at_call 87; (with_reducible refine Calls.mono (hE ▸ first_2 _ K0.out K1.out trivial (fun _ => trivial)) ?_); rintro e yx ⟨rfl, hbx⟩; replace BV := Lib.hid (belowT (show Below w.heap.size w _ by have Bq := BV.out; (repeat (first | with_reducible exact Below.refl _ _ | with_reducible assumption | with_reducible refine Below.alloc ?_ (by first | (simp; done) | (simp; omega) | omega) _ | with_reducible refine Below.setCell ?_ (by first | (simp; done) | (simp; omega) | omega) _ | with_reducible refine Below.drew ?_ | with_reducible refine below_drewN ?_ _))) hbx); have r0' := r0; replace z0 := (hbx.frozen (p := ⟨w.heap.size, 0, none⟩) (by have := lt_of r0'; omega)).trans z0; replace z1 := (hbx.frozen (p := ⟨w.heap.size, 1, none⟩) (by have := lt_of r0'; omega)).trans z1; clear r0'; replace r0 := keep hbx r0; replace r1 := keep hbx r1; clear hbx))
  refine bodyPost_ret (v := .tuple #[.agg #[.int .i64 0, .int .i64 0], .int .i64 E]) (by simp [results, Try.results72, go_sem, *]) rfl ⟨rfl, by have Bq := BV.out; (repeat (first | with_reducible exact Below.refl _ _ | with_reducible assumption | with_reducible refine Below.alloc ?_ (by first | (simp; done) | (simp; omega) | omega) _ | with_reducible refine Below.setCell ?_ (by first | (simp; done) | (simp; omega) | omega) _ | with_reducible refine Below.drew ?_ | with_reducible refine below_drewN ?_ _))⟩
set_option maxRecDepth 100000 in
set_option maxHeartbeats 2000000 in
theorem binOfS_ok (A : Option Addr) (n c : Nat) (g : Nat → Int × Int) (q : Int) (hE : boE n g q = 0) (w : World) (hA : GA w A n g) :
    Calls Try.prog 72 #[.slice A n c, .int .i64 q] w fun e w' => e = .returned (.tuple #[.agg #[.int .i64 (bnS (-q) g n).1, .int .i64 (bnS (-q) g n).2], .int .i64 0]) ∧ Below w.heap.size w w' := by
  obtain ⟨hs, hr⟩ := fs2_0 hE
  obtain ⟨hn, hg⟩ := sm_0 hs
  obtain ⟨q0, q1⟩ := rg_0 hr
  have HSC := Lib.hid (fun W (hW : Below w.heap.size w W) => samplesCheck_chk A n c g W (by omega) (hA.bel hW))
  have HQC := Lib.hid (fun W => quarterCheck_chk q W)
  have HBN := Lib.hid (fun W (hW : Below w.heap.size w W) => bin_any A n c g q W hn (hA.bel hW) (by omega) (by omega) (fun i hi => by have := hg i hi; omega))
  unfold boE at hE
  clear hA hs hr hg
  generalize (bnS (-q) g n).1 = X at *
  generalize (bnS (-q) g n).2 = Y at *
  go_enter Try.func72, Try.ntmps72
  go_wp2_with (first
    | (go_at_call 108; (with_reducible refine Calls.mono (HSC.out _ (by (repeat (first | with_reducible exact Below.refl _ _ | with_reducible assumption | with_reducible refine Below.alloc ?_ (by first | (simp; done) | (simp; omega) | omega) _ | with_reducible refine Below.setCell ?_ (by first | (simp; done) | (simp; omega) | omega) _ | with_reducible refine Below.drew ?_ | with_reducible refine below_drewN ?_ _)))) ?_); rintro e yx ⟨v0, rfl, hbx, g0, f0, rfl, hg0, hh0⟩; have BV := Lib.hid (belowT (show Below w.heap.size w _ by (repeat (first | with_reducible exact Below.refl _ _ | with_reducible assumption | with_reducible refine Below.alloc ?_ (by first | (simp; done) | (simp; omega) | omega) _ | with_reducible refine Below.setCell ?_ (by first | (simp; done) | (simp; omega) | omega) _ | with_reducible refine Below.drew ?_ | with_reducible refine below_drewN ?_ _))) hbx); have r0 := keep hbx (b := w.heap.size) (o := 0) (v := .int .i64 0) (by simp [go_sem]); have r1 := keep hbx (b := w.heap.size) (o := 1) (v := .int .i64 0) (by simp [go_sem]); have z0 := (hbx.frozen (p := ⟨w.heap.size, 0, none⟩) (by simp)).trans (show _ = false by simp [go_sem]); have z1 := (hbx.frozen (p := ⟨w.heap.size, 1, none⟩) (by simp)).trans (show _ = false by simp [go_sem]); have K0 := Lib.hid (show Chk True _ (.func (.func g0) #[] f0) yx from ⟨g0, f0, rfl, hg0, hh0⟩); clear hg0 hh0; clear hbx)
    | (go_at_call 120; (with_reducible refine Calls.mono (HQC.out _) ?_); rintro e yx ⟨v1, rfl, hbx, g1, f1, rfl, hg1, hh1⟩; replace BV := Lib.hid (belowT (show Below w.heap.size w _ by have Bq := BV.out; (repeat (first | with_reducible exact Below.refl _ _ | with_reducible assumption | with_reducible refine Below.alloc ?_ (by first | (simp; done) | (simp; omega) | omega) _ | with_reducible refine Below.setCell ?_ (by first | (simp; done) | (simp; omega) | omega) _ | with_reducible refine Below.drew ?_ | with_reducible refine below_drewN ?_ _))) hbx); have r0' := r0; replace z0 := (hbx.frozen (p := ⟨w.heap.size, 0, none⟩) (by have := lt_of r0'; omega)).trans z0; replace z1 := (hbx.frozen (p := ⟨w.heap.size, 1, none⟩) (by have := lt_of r0'; omega)).trans z1; clear r0'; replace r0 := keep hbx r0; replace r1 := keep hbx r1; have K1 := Lib.hid (show Chk True _ (.func (.func g1) #[] f1) yx from ⟨g1, f1, rfl, hg1, hh1⟩); replace K0 := Lib.hid (K0.out.on hbx); clear hg1 hh1; clear hbx)
    | (go_at_call 87; (with_reducible refine Calls.mono (hE ▸ first_2 _ K0.out K1.out trivial (fun _ => trivial)) ?_); rintro e yx ⟨rfl, hbx⟩; replace BV := Lib.hid (belowT (show Below w.heap.size w _ by have Bq := BV.out; (repeat (first | with_reducible exact Below.refl _ _ | with_reducible assumption | with_reducible refine Below.alloc ?_ (by first | (simp; done) | (simp; omega) | omega) _ | with_reducible refine Below.setCell ?_ (by first | (simp; done) | (simp; omega) | omega) _ | with_reducible refine Below.drew ?_ | with_reducible refine below_drewN ?_ _))) hbx); have r0' := r0; replace z0 := (hbx.frozen (p := ⟨w.heap.size, 0, none⟩) (by have := lt_of r0'; omega)).trans z0; replace z1 := (hbx.frozen (p := ⟨w.heap.size, 1, none⟩) (by have := lt_of r0'; omega)).trans z1; clear r0'; replace r0 := keep hbx r0; replace r1 := keep hbx r1; clear hbx)
    | (go_at_call 121; (with_reducible refine Calls.mono (HBN.out _ BV.out) ?_); rintro e yx ⟨rfl, hbx⟩; replace BV := Lib.hid (belowT (show Below w.heap.size w _ by have Bq := BV.out; (repeat (first | with_reducible exact Below.refl _ _ | with_reducible assumption | with_reducible refine Below.alloc ?_ (by first | (simp; done) | (simp; omega) | omega) _ | with_reducible refine Below.setCell ?_ (by first | (simp; done) | (simp; omega) | omega) _ | with_reducible refine Below.drew ?_ | with_reducible refine below_drewN ?_ _))) hbx); have r0' := r0; replace z0 := (hbx.frozen (p := ⟨w.heap.size, 0, none⟩) (by have := lt_of r0'; omega)).trans z0; replace z1 := (hbx.frozen (p := ⟨w.heap.size, 1, none⟩) (by have := lt_of r0'; omega)).trans z1; clear r0'; replace r0 := keep hbx r0; replace r1 := keep hbx r1; clear hbx))
  refine bodyPost_ret (v := .tuple #[.agg #[.int .i64 X, .int .i64 Y], .int .i64 0]) (by simp [results, Try.results72, go_sem, *]) rfl ⟨rfl, by have Bq := BV.out; (repeat (first | with_reducible exact Below.refl _ _ | with_reducible assumption | with_reducible refine Below.alloc ?_ (by first | (simp; done) | (simp; omega) | omega) _ | with_reducible refine Below.setCell ?_ (by first | (simp; done) | (simp; omega) | omega) _ | with_reducible refine Below.drew ?_ | with_reducible refine below_drewN ?_ _))⟩
end Go.Proofs.Ytpkacfgmojblbaa
namespace Go.Proofs.Ytpkacfgmojblbaa
open Go.RowKit
theorem le_of_sq {x y : Int} (hy : 0 ≤ y) (h : x * x ≤ y * y) : x ≤ y := by
  rcases Int.lt_or_le y x with q | q
  · have p := Int.mul_pos (show 0 < x - y by omega) (show 0 < x + y by omega)
    simp only [Int.sub_mul, Int.mul_add] at p
    have := Int.mul_comm x y
    omega
  · exact q
theorem hid_step {a S r im k : Int} (_ : 0 ≤ a) (_ : 0 ≤ k) (S0 : 0 ≤ S) (r1 : siz im ≤ r) (hn : a * a ≤ nrm (r, im)) (ih : k * a * (k * a) ≤ 2 * (S * S)) : (k + 1) * a * ((k + 1) * a) ≤ 2 * ((S + r) * (S + r)) := by
  have r0 : 0 ≤ r := Int.le_trans (siz_nn im) r1
  have i2 : im * im ≤ r * r := by
    have h := Int.mul_le_mul r1 r1 (siz_nn im) r0
    have e : siz im * siz im = im * im := by
      rcases siz_of im with h | h <;> rw [h]
      rw [Int.neg_mul_neg]
    omega
  have hr : a * a ≤ 2 * (r * r) := by
    have hn2 : a * a ≤ r * r + im * im := hn
    omega
  have key : k * a * a ≤ 2 * (S * r) := by
    refine le_of_sq (Int.mul_nonneg (by decide) (Int.mul_nonneg S0 r0)) ?_
    have h := Int.mul_le_mul ih hr (sq_nn a) (Int.mul_nonneg (by decide) (sq_nn S))
    have e1 : k * a * a * (k * a * a) = k * a * (k * a) * (a * a) := by ac_rfl
    have e2 : 2 * (S * r) * (2 * (S * r)) = 2 * (S * S) * (2 * (r * r)) := by ac_rfl
    omega
  have e1 : (k + 1) * a * ((k + 1) * a) = k * a * (k * a) + 2 * (k * a * a) + a * a := by
    rw [Int.add_mul, Int.one_mul]
    generalize k * a = b
    simp only [Int.add_mul, Int.mul_add]
    have := Int.mul_comm a b
    omega
  have e2 : 2 * ((S + r) * (S + r)) = 2 * (S * S) + 4 * (S * r) + 2 * (r * r) := by
    simp only [Int.add_mul, Int.mul_add]
    have := Int.mul_comm S r
    omega
  rw [e1, e2]
  omega
theorem bn0_s (g : Nat → Int × Int) (k : Nat) : bnS 0 g (k + 1) = ((bnS 0 g k).1 + (g k).1, (bnS 0 g k).2 + (g k).2) := by
  have h := rt_0 (g k)
  have h1 := congrArg Prod.fst h
  have h2 := congrArg Prod.snd h
  simp only [rt] at h1 h2
  simp only [bnS, Int.zero_mul, h1, h2]
theorem hid_all {a : Int} {g : Nat → Int × Int} {n : Nat} (a0 : 0 ≤ a) (h : ∀ i, i < n → siz (g i).2 ≤ (g i).1 ∧ a * a ≤ nrm (g i)) : ∀ k, k ≤ n → 0 ≤ (bnS 0 g k).1 ∧ (k : Int) * a * ((k : Int) * a) ≤ 2 * ((bnS 0 g k).1 * (bnS 0 g k).1)
  | 0, _ => by simp [bnS]
  | k + 1, hk => by
    obtain ⟨i1, i2⟩ := hid_all a0 h k (by omega)
    obtain ⟨h1, h2⟩ := h k (by omega)
    have r0 : 0 ≤ (g k).1 := Int.le_trans (siz_nn _) h1
    rw [bn0_s]
    have := hid_step (a := a) (S := (bnS 0 g k).1) (r := (g k).1) (im := (g k).2) (k := k) a0 (by omega) i1 h1 h2 i2
    rw [← Int.natCast_succ] at this
    exact ⟨by show 0 ≤ (bnS 0 g k).1 + (g k).1; omega, this⟩
theorem hid_bound {a : Int} {g : Nat → Int × Int} {n : Nat} (a0 : 0 ≤ a) (h : ∀ i, i < n → siz (g i).2 ≤ (g i).1 ∧ a * a ≤ nrm (g i)) : mnV a n ≤ nrm (bnS 0 g n) := by
  have h1 := (hid_all a0 h n (Nat.le_refl _)).2
  have h2 := sq_nn (bnS 0 g n).2
  have e : (n : Int) * n * a * a = (n : Int) * a * ((n : Int) * a) := by ac_rfl
  unfold mnV nrm
  rw [e]
  omega
/-- four samples as pairs -/
theorem bins4 (g : Nat → Int × Int) : nrm (bnS 0 g 4) + nrm (bnS (-1) g 4) + nrm (bnS (-2) g 4) + nrm (bnS (-3) g 4) = 4 * enS g 4 := by
  simp [bnS, rtR, rtI, qRe, qIm, enS, nrm]
  generalize (g 0).1 = a
  generalize (g 0).2 = b
  generalize (g 1).1 = c
  generalize (g 1).2 = d
  generalize (g 2).1 = e
  generalize (g 2).2 = f
  generalize (g 3).1 = k
  generalize (g 3).2 = l
  simp only [Int.add_mul, Int.mul_add, Int.mul_neg, Int.mul_comm]
  omega
end Go.Proofs.Ytpkacfgmojblbaa
