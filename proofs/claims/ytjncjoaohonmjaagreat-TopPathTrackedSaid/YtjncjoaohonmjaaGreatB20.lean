/- Helpers: the document's own point and box of a track. -/
import Derived.Test.YtjncjoaohonmjaaGreatB19
import Derived.Test.YtjncjoaohonmjaaGreatB08
namespace Go.Proofs.YtjncjoaohonmjaaGreat
open Go.RowKit Go.Shelf Go.Sort
attribute [local go_sem] idx3_0 idx3_1 idx3_2 old1 fro1 old2 fro2 old3 fro3 old4 fro4 old5 fro5 old6 fro6 old7 fro7 old8 fro8 old9 fro9 old10 fro10 old11 fro11 old12 fro12
set_option maxRecDepth 100000 in
set_option maxHeartbeats 800000 in
theorem rscaled_any (x y z n : Int) (a1 : -2000000 ≤ x) (a2 : x ≤ 2000000) (a3 : -2000000 ≤ y) (a4 : y ≤ 2000000) (a5 : -2000000 ≤ z) (a6 : z ≤ 2000000) (n1 : 0 ≤ n) (n2 : n ≤ 10000) (w : World) :
    Calls Tryz.prog 74 #[.agg #[.int .i64 x, .int .i64 y, .int .i64 z], .int .i64 n] w fun e w' => e = .returned (.agg #[.int .i64 (x * n), .int .i64 (y * n), .int .i64 (z * n)]) ∧ Below w.heap.size w w' := by
  obtain ⟨b1, b2⟩ := mul_bd a1 a2 n1 n2 (by decide)
  obtain ⟨b3, b4⟩ := mul_bd a3 a4 n1 n2 (by decide)
  obtain ⟨b5, b6⟩ := mul_bd a5 a6 n1 n2 (by decide)
  have u1 : IntKind.i64.wrap (x * n) = x * n := IntWalk.i64_in _ (by omega)
  have u2 : IntKind.i64.wrap (y * n) = y * n := IntWalk.i64_in _ (by omega)
  have u3 : IntKind.i64.wrap (z * n) = z * n := IntWalk.i64_in _ (by omega)
  clear b1 b2 b3 b4 b5 b6
  go_enter Tryz.func74, Tryz.ntmps74
  go_wp2_with fail
  refine bodyPost_ret (v := .agg #[.int .i64 (x * n), .int .i64 (y * n), .int .i64 (z * n)]) (by simp [results, Tryz.results74, go_sem]) rfl ⟨rfl, by (repeat (first | with_reducible exact Below.refl _ _ | with_reducible assumption | with_reducible refine Below.alloc ?_ (by first | (simp; done) | (simp; omega) | omega) _ | with_reducible refine Below.setCell ?_ (by first | (simp; done) | (simp; omega) | omega) _ | with_reducible refine Below.drew ?_ | with_reducible refine below_drewN ?_ _))⟩
set_option maxRecDepth 100000 in
set_option maxHeartbeats 800000 in
theorem rplus_any (x y z x0 y0 z0 : Int) (a1 : -100000000000 ≤ x) (a2 : x ≤ 100000000000) (a3 : -100000000000 ≤ y) (a4 : y ≤ 100000000000) (a5 : -100000000000 ≤ z) (a6 : z ≤ 100000000000) (b1 : -100000000000 ≤ x0) (b2 : x0 ≤ 100000000000) (b3 : -100000000000 ≤ y0) (b4 : y0 ≤ 100000000000) (b5 : -100000000000 ≤ z0) (b6 : z0 ≤ 100000000000) (w : World) :
    Calls Tryz.prog 73 #[.agg #[.int .i64 x, .int .i64 y, .int .i64 z], .agg #[.int .i64 x0, .int .i64 y0, .int .i64 z0]] w fun e w' => e = .returned (.agg #[.int .i64 (x + x0), .int .i64 (y + y0), .int .i64 (z + z0)]) ∧ Below w.heap.size w w' := by
  have u1 : IntKind.i64.wrap (x + x0) = x + x0 := IntWalk.i64_in _ (by omega)
  have u2 : IntKind.i64.wrap (y + y0) = y + y0 := IntWalk.i64_in _ (by omega)
  have u3 : IntKind.i64.wrap (z + z0) = z + z0 := IntWalk.i64_in _ (by omega)
  go_enter Tryz.func73, Tryz.ntmps73
  go_wp2_with fail
  refine bodyPost_ret (v := .agg #[.int .i64 (x + x0), .int .i64 (y + y0), .int .i64 (z + z0)]) (by simp [results, Tryz.results73, go_sem]) rfl ⟨rfl, by (repeat (first | with_reducible exact Below.refl _ _ | with_reducible assumption | with_reducible refine Below.alloc ?_ (by first | (simp; done) | (simp; omega) | omega) _ | with_reducible refine Below.setCell ?_ (by first | (simp; done) | (simp; omega) | omega) _ | with_reducible refine Below.drew ?_ | with_reducible refine below_drewN ?_ _))⟩
def plV (p : Plc) : Value := .agg #[.int .i64 p.x, .int .i64 p.y, .int .i64 p.z, .int .i64 p.n]
theorem comb_eq (a b T s t : Int) (h : T = t + s) : a * T + (b - a) * s = a * t + b * s := by
  subst h
  rw [Int.mul_add, Int.sub_mul]
  omega
theorem plc_at {k : Nat → Knot} {n m : Nat} {time : Int} (hm : mIdx k n time = m) (h : (k m).t = time) : plc k n time = ⟨(k m).x, (k m).y, (k m).z, 1⟩ := by
  unfold plc
  rw [hm]
  simp only
  rw [if_pos h]
theorem plc_in {k : Nat → Knot} {n m : Nat} {time : Int} (hm : mIdx k n time = m) (h : time < (k m).t) :
    plc k n time = ⟨(k (m - 1)).x * ((k m).t - (k (m - 1)).t) + ((k m).x - (k (m - 1)).x) * (time - (k (m - 1)).t), (k (m - 1)).y * ((k m).t - (k (m - 1)).t) + ((k m).y - (k (m - 1)).y) * (time - (k (m - 1)).t), (k (m - 1)).z * ((k m).t - (k (m - 1)).t) + ((k m).z - (k (m - 1)).z) * (time - (k (m - 1)).t), (k m).t - (k (m - 1)).t⟩ := by
  unfold plc
  rw [hm]
  simp only
  rw [if_neg (by omega)]
  have e : (k m).t - (k (m - 1)).t = ((k m).t - time) + (time - (k (m - 1)).t) := by omega
  rw [comb_eq _ _ _ _ _ e, comb_eq _ _ _ _ _ e, comb_eq _ _ _ _ _ e]
theorem bminus0_any (x y z : Int) (a1 : -1000000 ≤ x) (a2 : x ≤ 1000000) (a3 : -1000000 ≤ y) (a4 : y ≤ 1000000) (a5 : -1000000 ≤ z) (a6 : z ≤ 1000000) (w : World) :
    Calls Tryz.prog 72 #[.agg #[.int .i64 x, .int .i64 y, .int .i64 z], .agg #[.int .i64 0, .int .i64 0, .int .i64 0]] w fun e w' => e = .returned (.agg #[.int .i64 x, .int .i64 y, .int .i64 z]) ∧ Below w.heap.size w w' := by
  have := bminus_any x y z 0 0 0 a1 a2 a3 a4 a5 a6 (by decide) (by decide) (by decide) (by decide) (by decide) (by decide) w
  simpa using this
def PT (w : World) (A : Option Addr) (n c : Nat) (d : Int) (wx : World) : Prop :=
  (Below w.heap.size w wx ∧ w.heap.size + 1 < wx.heap.size) ∧ (wx.cell? ⟨w.heap.size, 0, none⟩ = some (.slice A n c) ∧ wx.cell? ⟨w.heap.size, 1, none⟩ = some (.int .i64 d)) ∧
  (wx.cell? ⟨w.heap.size + 1, 0, none⟩ = some (.int .i64 0) ∧ wx.cell? ⟨w.heap.size + 1, 1, none⟩ = some (.int .i64 0) ∧ wx.cell? ⟨w.heap.size + 1, 2, none⟩ = some (.int .i64 0) ∧ wx.cell? ⟨w.heap.size + 1, 3, none⟩ = some (.int .i64 0)) ∧
  (wx.frozen? ⟨w.heap.size + 1, 0, none⟩ = false ∧ wx.frozen? ⟨w.heap.size + 1, 1, none⟩ = false ∧ wx.frozen? ⟨w.heap.size + 1, 2, none⟩ = false ∧ wx.frozen? ⟨w.heap.size + 1, 3, none⟩ = false)
set_option maxRecDepth 100000 in
set_option maxHeartbeats 2000000 in
theorem rpointAt_any (b off n c : Nat) (d time : Int) (w : World) (k : Nat → Knot) (hk : KAt w b off n k) (hv : ctErr k n d = 0) (h : outside time k n = false) :
    Calls Tryz.prog 36 #[.agg #[.slice (some ⟨b, off, none⟩) n c, .int .i64 d], .int .i64 time] w fun e w' => e = .returned (plV (plc k n time)) ∧ Below w.heap.size w w' := by
  obtain ⟨hn, hn2, hkk, hd⟩ := valid_of hv
  obtain ⟨m1, m2, m3, m4⟩ := mIdx_spec hn h
  have HA := fun q => Lib.hid (plc_at (k := k) (n := n) (time := time) rfl q)
  have HC := fun q => Lib.hid (plc_in (k := k) (n := n) (time := time) rfl q)
  generalize mIdx k n time = m at *
  generalize plc k n time = P at *
  obtain ⟨px, py, pz, pn⟩ := P
  have M0 : time < (k m).t → 0 < m := fun q => by
    rcases Nat.eq_zero_or_pos m with e | e
    · subst e; omega
    · exact e
  have HAH := Lib.hid HA
  have HCH := Lib.hid HC
  have HK := Lib.hid hk
  have HOK := Lib.hid hkk
  have M3 := Lib.hid m3
  clear hv h hkk m3 m4 HA HC hd hk
  unfold plV
  simp only
  go_enter Tryz.func36, Tryz.ntmps36
  go_wp2_with fail
  go_loopw [5] (fun i wr => ∃ j : Nat, j ≤ m ∧ (time < (k m).t → j < m) ∧ i = .int .i64 j ∧ PT w (some ⟨b, off, none⟩) n c d wr) (fun i _ => n - (intOf i).toNat)
  case atStart =>
    exact ⟨0, Nat.zero_le _, M0, rfl, ⟨by (repeat (first | with_reducible exact Below.refl _ _ | with_reducible assumption | with_reducible refine Below.alloc ?_ (by first | (simp; done) | (simp; omega) | omega) _ | with_reducible refine Below.setCell ?_ (by first | (simp; done) | (simp; omega) | omega) _ | with_reducible refine Below.drew ?_ | with_reducible refine below_drewN ?_ _)), by simp⟩, ⟨by simp [go_sem], by simp [go_sem]⟩, ⟨by simp [go_sem], by simp [go_sem], by simp [go_sem], by simp [go_sem]⟩, ⟨by simp [go_sem], by simp [go_sem], by simp [go_sem], by simp [go_sem]⟩⟩
  case round =>
    obtain ⟨j, hj, hjm, rfl, ⟨hbel, hws⟩, ⟨p0, p1⟩, ⟨r0, r1, r2, r3⟩, ⟨f0, f1, f2, f3⟩⟩ := hrel
    have hlt : j < n := by omega
    obtain ⟨c1, c2, c3, c4⟩ := HK.out.2 j hlt
    have hbb := HK.out.1
    have g1 := keep hbel c1
    have g2 := keep hbel c2
    have g3 := keep hbel c3
    have g4 := keep hbel c4
    clear c1 c2 c3 c4
    obtain ⟨⟨t1, t2⟩, ⟨x1, x2⟩, ⟨y1, y2⟩, ⟨z1, z2⟩⟩ := knotErr_ok (HOK.out j hlt)
    have hbw := hbel.size
    have q1 : (0 : Int) ≤ (j : Int) := by omega
    have q2 : (j : Int) < (n : Int) := by omega
    have HM := fun W => Lib.hid (bminus0_any (k j).x (k j).y (k j).z x1 x2 y1 y2 z1 z2 W)
    by_cases e : (k j).t = time
    · have hjm2 : j = m := by
        rcases Nat.lt_or_eq_of_le hj with q | q
        · have := M3.out j q; omega
        · exact q
      subst hjm2
      have HP := (HAH.out e).out
      simp only [Plc.mk.injEq] at HP
      have HPE := Lib.hid HP
      clear HP
      have e1 : ((k j).t == time) = true := by simp [e]
      clear HAH HCH hjm M0 e t1 t2 x1 x2 y1 y2 z1 z2 m1 m2
      generalize (k j).t = T at *
      generalize (k j).x = X at *
      generalize (k j).y = Y at *
      generalize (k j).z = Z at *
      go_wp2_with (first
        | (go_at_call 72; go_loud ((with_reducible refine Calls.mono (HM _).out ?_); rintro e w2 ⟨rfl, hb2⟩; have Ap0 := keepA ((.cells #[.int .i64 T, .int .i64 X, .int .i64 Y, .int .i64 Z] 100)) p0; have Ap1 := keepA ((.cells #[.int .i64 T, .int .i64 X, .int .i64 Y, .int .i64 Z] 100)) p1; have Ar0 := keepA ((.cells #[.int .i64 T, .int .i64 X, .int .i64 Y, .int .i64 Z] 100)) r0; have Ar1 := keepA ((.cells #[.int .i64 T, .int .i64 X, .int .i64 Y, .int .i64 Z] 100)) r1; have Ar2 := keepA ((.cells #[.int .i64 T, .int .i64 X, .int .i64 Y, .int .i64 Z] 100)) r2; have Ar3 := keepA ((.cells #[.int .i64 T, .int .i64 X, .int .i64 Y, .int .i64 Z] 100)) r3; have Af0 := (fro1 (p1 := (.cells #[.int .i64 T, .int .i64 X, .int .i64 Y, .int .i64 Z] 100)) (by rw [r0]; rfl)).trans f0; have Af1 := (fro1 (p1 := (.cells #[.int .i64 T, .int .i64 X, .int .i64 Y, .int .i64 Z] 100)) (by rw [r1]; rfl)).trans f1; have Af2 := (fro1 (p1 := (.cells #[.int .i64 T, .int .i64 X, .int .i64 Y, .int .i64 Z] 100)) (by rw [r2]; rfl)).trans f2; have Af3 := (fro1 (p1 := (.cells #[.int .i64 T, .int .i64 X, .int .i64 Y, .int .i64 Z] 100)) (by rw [r3]; rfl)).trans f3; have B2 := thenB (show Below w.heap.size w _ by (repeat (first | with_reducible exact Below.refl _ _ | with_reducible assumption | with_reducible refine Below.alloc ?_ (by first | (simp; done) | (simp; omega) | omega) _ | with_reducible refine Below.setCell ?_ (by first | (simp; done) | (simp; omega) | omega) _ | with_reducible refine Below.drew ?_ | with_reducible refine below_drewN ?_ _))) hb2; have Bz := B2.size; have Bp0 := keep hb2 Ap0; have Bp1 := keep hb2 Ap1; have Br0 := keep hb2 Ar0; have Br1 := keep hb2 Ar1; have Br2 := keep hb2 Ar2; have Br3 := keep hb2 Ar3; have Bf0 := (hb2.frozen (p := ⟨w.heap.size + 1, 0, none⟩) (by show w.heap.size + 1 < _; exact lt_of Ar0)).trans Af0; have Bf1 := (hb2.frozen (p := ⟨w.heap.size + 1, 1, none⟩) (by show w.heap.size + 1 < _; exact lt_of Ar0)).trans Af1; have Bf2 := (hb2.frozen (p := ⟨w.heap.size + 1, 2, none⟩) (by show w.heap.size + 1 < _; exact lt_of Ar0)).trans Af2; have Bf3 := (hb2.frozen (p := ⟨w.heap.size + 1, 3, none⟩) (by show w.heap.size + 1 < _; exact lt_of Ar0)).trans Af3; have Bk0 := (hb2.cell (p := ⟨wr.heap.size, 0, none⟩) (by first | (simp; done) | (simp; omega) | omega)).trans (show _ = some (.int .i64 T) by simp [go_sem]); have Bk1 := (hb2.cell (p := ⟨wr.heap.size, 1, none⟩) (by first | (simp; done) | (simp; omega) | omega)).trans (show _ = some (.int .i64 X) by simp [go_sem]); have Bk2 := (hb2.cell (p := ⟨wr.heap.size, 2, none⟩) (by first | (simp; done) | (simp; omega) | omega)).trans (show _ = some (.int .i64 Y) by simp [go_sem]); have Bk3 := (hb2.cell (p := ⟨wr.heap.size, 3, none⟩) (by first | (simp; done) | (simp; omega) | omega)).trans (show _ = some (.int .i64 Z) by simp [go_sem]); have Cp0 := keepA ((.cells #[.int .i64 X, .int .i64 Y, .int .i64 Z] 23)) Bp0; have Cp1 := keepA ((.cells #[.int .i64 X, .int .i64 Y, .int .i64 Z] 23)) Bp1; have Cr0 := keepA ((.cells #[.int .i64 X, .int .i64 Y, .int .i64 Z] 23)) Br0; have Cr1 := keepA ((.cells #[.int .i64 X, .int .i64 Y, .int .i64 Z] 23)) Br1; have Cr2 := keepA ((.cells #[.int .i64 X, .int .i64 Y, .int .i64 Z] 23)) Br2; have Cr3 := keepA ((.cells #[.int .i64 X, .int .i64 Y, .int .i64 Z] 23)) Br3; have Cf0 := (fro1 (p1 := (.cells #[.int .i64 X, .int .i64 Y, .int .i64 Z] 23)) (by rw [Br0]; rfl)).trans Bf0; have Cf1 := (fro1 (p1 := (.cells #[.int .i64 X, .int .i64 Y, .int .i64 Z] 23)) (by rw [Br1]; rfl)).trans Bf1; have Cf2 := (fro1 (p1 := (.cells #[.int .i64 X, .int .i64 Y, .int .i64 Z] 23)) (by rw [Br2]; rfl)).trans Bf2; have Cf3 := (fro1 (p1 := (.cells #[.int .i64 X, .int .i64 Y, .int .i64 Z] 23)) (by rw [Br3]; rfl)).trans Bf3; clear hb2)))
      refine bodyPost_ret (v := .agg #[.int .i64 X, .int .i64 Y, .int .i64 Z, .int .i64 1]) (by simp [results, Tryz.results36, go_sem, Cr0, Cr1, Cr2, Cr3]) rfl ?_
      have hw1 : w.heap.size ≤ w.heap.size + 1 := by omega
      obtain ⟨v1, v2, v3, v4⟩ := HPE.out
      exact ⟨by rw [v1, v2, v3, v4], by (repeat (first | with_reducible exact Below.refl _ _ | with_reducible assumption | with_reducible refine Below.alloc ?_ (by first | (simp; done) | (simp; omega) | omega) _ | with_reducible refine Below.setCell ?_ (by first | (simp; done) | (simp; omega) | omega) _ | with_reducible refine Below.drew ?_ | with_reducible refine below_drewN ?_ _))⟩
    · have e1 : ((k j).t == time) = false := by simp [e]
      have hjlt : j < m := by
        rcases Nat.lt_or_eq_of_le hj with q | q
        · exact q
        · subst q; exact hjm (by omega)
      obtain ⟨d1, d2, d3, d4⟩ := HK.out.2 (j + 1) (by omega)
      have i1 := keep hbel d1
      have i2 := keep hbel d2
      have i3 := keep hbel d3
      have i4 := keep hbel d4
      have q3 : IntKind.i64.wrap ((j : Int) + 1) = (j : Int) + 1 := IntWalk.i64_in _ (by omega)
      have q4 : (j : Int) + 1 < (n : Int) := by omega
      have q5 : ((j : Int) + 1).toNat = j + 1 := by omega
      have q6 : (0 : Int) ≤ (j : Int) + 1 := by omega
      by_cases hlast : time < (k (j + 1)).t
      · obtain rfl : j + 1 = m := by
          rcases Nat.lt_or_eq_of_le hjlt with q' | q'
          · have := M3.out (j + 1) q'; omega
          · exact q'
        obtain ⟨⟨t3, t4⟩, ⟨x3, x4⟩, ⟨y3, y4⟩, ⟨z3, z4⟩⟩ := knotErr_ok (HOK.out (j + 1) m1)
        obtain ⟨s1, s2, _⟩ := knot_step (HOK.out (j + 1) m1) (by omega)
        have sj := M3.out j (by omega)
        have HP := (HCH.out hlast).out
        simp only [Nat.add_sub_cancel, Plc.mk.injEq] at HP s1 s2
        have HPE := Lib.hid HP
        clear HP
        have HM2 := fun W => Lib.hid (bminus_any (k (j + 1)).x (k (j + 1)).y (k (j + 1)).z (k j).x (k j).y (k j).z x3 x4 y3 y4 z3 z4 x1 x2 y1 y2 z1 z2 W)
        have HS1 := fun W => Lib.hid (rscaled_any (k j).x (k j).y (k j).z ((k (j + 1)).t - (k j).t) (by omega) (by omega) (by omega) (by omega) (by omega) (by omega) (by omega) (by omega) W)
        have HS2 := fun W => Lib.hid (rscaled_any ((k (j + 1)).x - (k j).x) ((k (j + 1)).y - (k j).y) ((k (j + 1)).z - (k j).z) (time - (k j).t) (by omega) (by omega) (by omega) (by omega) (by omega) (by omega) (by omega) (by omega) W)
        have bx := mul_bd (a := (k j).x) (A := 1000000) (t := (k (j + 1)).t - (k j).t) (T := 10000) x1 x2 (by omega) (by omega) (by decide)
        have by_ := mul_bd (a := (k j).y) (A := 1000000) (t := (k (j + 1)).t - (k j).t) (T := 10000) y1 y2 (by omega) (by omega) (by decide)
        have bz := mul_bd (a := (k j).z) (A := 1000000) (t := (k (j + 1)).t - (k j).t) (T := 10000) z1 z2 (by omega) (by omega) (by decide)
        have ex := mul_bd (a := (k (j + 1)).x - (k j).x) (A := 2000000) (t := time - (k j).t) (T := 10000) (by omega) (by omega) (by omega) (by omega) (by decide)
        have ey := mul_bd (a := (k (j + 1)).y - (k j).y) (A := 2000000) (t := time - (k j).t) (T := 10000) (by omega) (by omega) (by omega) (by omega) (by decide)
        have ez := mul_bd (a := (k (j + 1)).z - (k j).z) (A := 2000000) (t := time - (k j).t) (T := 10000) (by omega) (by omega) (by omega) (by omega) (by decide)
        have HPL := fun W => Lib.hid (rplus_any ((k j).x * ((k (j + 1)).t - (k j).t)) ((k j).y * ((k (j + 1)).t - (k j).t)) ((k j).z * ((k (j + 1)).t - (k j).t)) (((k (j + 1)).x - (k j).x) * (time - (k j).t)) (((k (j + 1)).y - (k j).y) * (time - (k j).t)) (((k (j + 1)).z - (k j).z) * (time - (k j).t)) (by omega) (by omega) (by omega) (by omega) (by omega) (by omega) (by omega) (by omega) (by omega) (by omega) (by omega) (by omega) W)
        have u1 : IntKind.i64.wrap ((k (j + 1)).t - (k j).t) = (k (j + 1)).t - (k j).t := IntWalk.i64_in _ (by omega)
        have u2 : IntKind.i64.wrap (time - (k j).t) = time - (k j).t := IntWalk.i64_in _ (by omega)
        clear bx by_ bz ex ey ez t1 t2 x1 x2 y1 y2 z1 z2 t3 t4 x3 x4 y3 y4 z3 z4 s1 s2 sj HAH HCH M0 hjm m1 m2 e hjlt d1 d2 d3 d4
        generalize (k (j + 1)).t = T2 at *
        generalize (k (j + 1)).x = X2 at *
        generalize (k (j + 1)).y = Y2 at *
        generalize (k (j + 1)).z = Z2 at *
        generalize (k j).t = T at *
        generalize (k j).x = X at *
        generalize (k j).y = Y at *
        generalize (k j).z = Z at *
        generalize X * (T2 - T) = ax at *
        generalize Y * (T2 - T) = ay at *
        generalize Z * (T2 - T) = az at *
        generalize (X2 - X) * (time - T) = ux at *
        generalize (Y2 - Y) * (time - T) = uy at *
        generalize (Z2 - Z) * (time - T) = uz at *
        generalize X2 - X = dx at *
        generalize Y2 - Y = dy at *
        generalize Z2 - Z = dz at *
        generalize hTT : T2 - T = TT at *
        generalize hSS : time - T = SS at *
        have G9 : True := trivial
        go_wp2_with (first
          | (go_at_call 72; go_loud ((with_reducible refine Calls.mono (HM _).out ?_); rintro e w2 ⟨rfl, hb2⟩; have Ap0 := keepA ((.cells #[.int .i64 T, .int .i64 X, .int .i64 Y, .int .i64 Z] 100)) p0; have Ap1 := keepA ((.cells #[.int .i64 T, .int .i64 X, .int .i64 Y, .int .i64 Z] 100)) p1; have Ar0 := keepA ((.cells #[.int .i64 T, .int .i64 X, .int .i64 Y, .int .i64 Z] 100)) r0; have Ar1 := keepA ((.cells #[.int .i64 T, .int .i64 X, .int .i64 Y, .int .i64 Z] 100)) r1; have Ar2 := keepA ((.cells #[.int .i64 T, .int .i64 X, .int .i64 Y, .int .i64 Z] 100)) r2; have Ar3 := keepA ((.cells #[.int .i64 T, .int .i64 X, .int .i64 Y, .int .i64 Z] 100)) r3; have Af0 := (fro1 (p1 := (.cells #[.int .i64 T, .int .i64 X, .int .i64 Y, .int .i64 Z] 100)) (by rw [r0]; rfl)).trans f0; have Af1 := (fro1 (p1 := (.cells #[.int .i64 T, .int .i64 X, .int .i64 Y, .int .i64 Z] 100)) (by rw [r1]; rfl)).trans f1; have Af2 := (fro1 (p1 := (.cells #[.int .i64 T, .int .i64 X, .int .i64 Y, .int .i64 Z] 100)) (by rw [r2]; rfl)).trans f2; have Af3 := (fro1 (p1 := (.cells #[.int .i64 T, .int .i64 X, .int .i64 Y, .int .i64 Z] 100)) (by rw [r3]; rfl)).trans f3; have B2 := thenB (show Below w.heap.size w _ by (repeat (first | with_reducible exact Below.refl _ _ | with_reducible assumption | with_reducible refine Below.alloc ?_ (by first | (simp; done) | (simp; omega) | omega) _ | with_reducible refine Below.setCell ?_ (by first | (simp; done) | (simp; omega) | omega) _ | with_reducible refine Below.drew ?_ | with_reducible refine below_drewN ?_ _))) hb2; have Bz := B2.size; have Bp0 := keep hb2 Ap0; have Bp1 := keep hb2 Ap1; have Br0 := keep hb2 Ar0; have Br1 := keep hb2 Ar1; have Br2 := keep hb2 Ar2; have Br3 := keep hb2 Ar3; have Bf0 := (hb2.frozen (p := ⟨w.heap.size + 1, 0, none⟩) (by show w.heap.size + 1 < _; exact lt_of Ar0)).trans Af0; have Bf1 := (hb2.frozen (p := ⟨w.heap.size + 1, 1, none⟩) (by show w.heap.size + 1 < _; exact lt_of Ar0)).trans Af1; have Bf2 := (hb2.frozen (p := ⟨w.heap.size + 1, 2, none⟩) (by show w.heap.size + 1 < _; exact lt_of Ar0)).trans Af2; have Bf3 := (hb2.frozen (p := ⟨w.heap.size + 1, 3, none⟩) (by show w.heap.size + 1 < _; exact lt_of Ar0)).trans Af3; have Bk0 := (hb2.cell (p := ⟨wr.heap.size, 0, none⟩) (by first | (simp; done) | (simp; omega) | omega)).trans (show _ = some (.int .i64 T) by simp [go_sem]); have Bk1 := (hb2.cell (p := ⟨wr.heap.size, 1, none⟩) (by first | (simp; done) | (simp; omega) | omega)).trans (show _ = some (.int .i64 X) by simp [go_sem]); have Bk2 := (hb2.cell (p := ⟨wr.heap.size, 2, none⟩) (by first | (simp; done) | (simp; omega) | omega)).trans (show _ = some (.int .i64 Y) by simp [go_sem]); have Bk3 := (hb2.cell (p := ⟨wr.heap.size, 3, none⟩) (by first | (simp; done) | (simp; omega) | omega)).trans (show _ = some (.int .i64 Z) by simp [go_sem]); have Cp0 := keepA ((.cells #[.int .i64 X, .int .i64 Y, .int .i64 Z] 23)) Bp0; have Cp1 := keepA ((.cells #[.int .i64 X, .int .i64 Y, .int .i64 Z] 23)) Bp1; have Cr0 := keepA ((.cells #[.int .i64 X, .int .i64 Y, .int .i64 Z] 23)) Br0; have Cr1 := keepA ((.cells #[.int .i64 X, .int .i64 Y, .int .i64 Z] 23)) Br1; have Cr2 := keepA ((.cells #[.int .i64 X, .int .i64 Y, .int .i64 Z] 23)) Br2; have Cr3 := keepA ((.cells #[.int .i64 X, .int .i64 Y, .int .i64 Z] 23)) Br3; have Cf0 := (fro1 (p1 := (.cells #[.int .i64 X, .int .i64 Y, .int .i64 Z] 23)) (by rw [Br0]; rfl)).trans Bf0; have Cf1 := (fro1 (p1 := (.cells #[.int .i64 X, .int .i64 Y, .int .i64 Z] 23)) (by rw [Br1]; rfl)).trans Bf1; have Cf2 := (fro1 (p1 := (.cells #[.int .i64 X, .int .i64 Y, .int .i64 Z] 23)) (by rw [Br2]; rfl)).trans Bf2; have Cf3 := (fro1 (p1 := (.cells #[.int .i64 X, .int .i64 Y, .int .i64 Z] 23)) (by rw [Br3]; rfl)).trans Bf3; have Bz2 : wr.heap.size + 1 ≤ w2.heap.size := (by have := hb2.size; simpa using this); have G1 := keepA (.cells #[.int .i64 X, .int .i64 Y, .int .i64 Z] 23) (keep hb2 (keepA (.cells #[.int .i64 T, .int .i64 X, .int .i64 Y, .int .i64 Z] 100) i1)); have G2 := keepA (.cells #[.int .i64 X, .int .i64 Y, .int .i64 Z] 23) (keep hb2 (keepA (.cells #[.int .i64 T, .int .i64 X, .int .i64 Y, .int .i64 Z] 100) i2)); have G3 := keepA (.cells #[.int .i64 X, .int .i64 Y, .int .i64 Z] 23) (keep hb2 (keepA (.cells #[.int .i64 T, .int .i64 X, .int .i64 Y, .int .i64 Z] 100) i3)); have G4 := keepA (.cells #[.int .i64 X, .int .i64 Y, .int .i64 Z] 23) (keep hb2 (keepA (.cells #[.int .i64 T, .int .i64 X, .int .i64 Y, .int .i64 Z] 100) i4)); clear hb2)))
        have Dp0 := keepA (.cells #[.int .i64 T2, .int .i64 X2, .int .i64 Y2, .int .i64 Z2] 100) Cp0; have Dp1 := keepA (.cells #[.int .i64 T2, .int .i64 X2, .int .i64 Y2, .int .i64 Z2] 100) Cp1; have Dr0 := keepA (.cells #[.int .i64 T2, .int .i64 X2, .int .i64 Y2, .int .i64 Z2] 100) Cr0; have Dr1 := keepA (.cells #[.int .i64 T2, .int .i64 X2, .int .i64 Y2, .int .i64 Z2] 100) Cr1; have Dr2 := keepA (.cells #[.int .i64 T2, .int .i64 X2, .int .i64 Y2, .int .i64 Z2] 100) Cr2; have Dr3 := keepA (.cells #[.int .i64 T2, .int .i64 X2, .int .i64 Y2, .int .i64 Z2] 100) Cr3; have Df0 := (fro1 (p1 := (.cells #[.int .i64 T2, .int .i64 X2, .int .i64 Y2, .int .i64 Z2] 100)) (by rw [Cr0]; rfl)).trans Cf0; have Df1 := (fro1 (p1 := (.cells #[.int .i64 T2, .int .i64 X2, .int .i64 Y2, .int .i64 Z2] 100)) (by rw [Cr1]; rfl)).trans Cf1; have Df2 := (fro1 (p1 := (.cells #[.int .i64 T2, .int .i64 X2, .int .i64 Y2, .int .i64 Z2] 100)) (by rw [Cr2]; rfl)).trans Cf2; have Df3 := (fro1 (p1 := (.cells #[.int .i64 T2, .int .i64 X2, .int .i64 Y2, .int .i64 Z2] 100)) (by rw [Cr3]; rfl)).trans Cf3; have Dk0 := keepA (.cells #[.int .i64 T2, .int .i64 X2, .int .i64 Y2, .int .i64 Z2] 100) (keepA (.cells #[.int .i64 X, .int .i64 Y, .int .i64 Z] 23) Bk0); have Dk1 := keepA (.cells #[.int .i64 T2, .int .i64 X2, .int .i64 Y2, .int .i64 Z2] 100) (keepA (.cells #[.int .i64 X, .int .i64 Y, .int .i64 Z] 23) Bk1); have Dk2 := keepA (.cells #[.int .i64 T2, .int .i64 X2, .int .i64 Y2, .int .i64 Z2] 100) (keepA (.cells #[.int .i64 X, .int .i64 Y, .int .i64 Z] 23) Bk2); have Dk3 := keepA (.cells #[.int .i64 T2, .int .i64 X2, .int .i64 Y2, .int .i64 Z2] 100) (keepA (.cells #[.int .i64 X, .int .i64 Y, .int .i64 Z] 23) Bk3)
        have Da0 := keepA (.cells #[.int .i64 T2, .int .i64 X2, .int .i64 Y2, .int .i64 Z2] 100) (show (w2.alloc (.cells #[.int .i64 X, .int .i64 Y, .int .i64 Z] 23)).cell? ⟨w2.heap.size, 0, none⟩ = some (.int .i64 X) by simp [go_sem]); have Da1 := keepA (.cells #[.int .i64 T2, .int .i64 X2, .int .i64 Y2, .int .i64 Z2] 100) (show (w2.alloc (.cells #[.int .i64 X, .int .i64 Y, .int .i64 Z] 23)).cell? ⟨w2.heap.size, 1, none⟩ = some (.int .i64 Y) by simp [go_sem]); have Da2 := keepA (.cells #[.int .i64 T2, .int .i64 X2, .int .i64 Y2, .int .i64 Z2] 100) (show (w2.alloc (.cells #[.int .i64 X, .int .i64 Y, .int .i64 Z] 23)).cell? ⟨w2.heap.size, 2, none⟩ = some (.int .i64 Z) by simp [go_sem]); have Dn0 := (show ((w2.alloc (.cells #[.int .i64 X, .int .i64 Y, .int .i64 Z] 23)).alloc (.cells #[.int .i64 T2, .int .i64 X2, .int .i64 Y2, .int .i64 Z2] 100)).cell? ⟨w2.heap.size + 1, 0, none⟩ = some (.int .i64 T2) by simp [go_sem]); have Dn1 := (show ((w2.alloc (.cells #[.int .i64 X, .int .i64 Y, .int .i64 Z] 23)).alloc (.cells #[.int .i64 T2, .int .i64 X2, .int .i64 Y2, .int .i64 Z2] 100)).cell? ⟨w2.heap.size + 1, 1, none⟩ = some (.int .i64 X2) by simp [go_sem]); have Dn2 := (show ((w2.alloc (.cells #[.int .i64 X, .int .i64 Y, .int .i64 Z] 23)).alloc (.cells #[.int .i64 T2, .int .i64 X2, .int .i64 Y2, .int .i64 Z2] 100)).cell? ⟨w2.heap.size + 1, 2, none⟩ = some (.int .i64 Y2) by simp [go_sem]); have Dn3 := (show ((w2.alloc (.cells #[.int .i64 X, .int .i64 Y, .int .i64 Z] 23)).alloc (.cells #[.int .i64 T2, .int .i64 X2, .int .i64 Y2, .int .i64 Z2] 100)).cell? ⟨w2.heap.size + 1, 3, none⟩ = some (.int .i64 Z2) by simp [go_sem])
        have B9 : Below w.heap.size w ((w2.alloc (.cells #[.int .i64 X, .int .i64 Y, .int .i64 Z] 23)).alloc (.cells #[.int .i64 T2, .int .i64 X2, .int .i64 Y2, .int .i64 Z2] 100)) := by (repeat (first | with_reducible exact Below.refl _ _ | with_reducible assumption | with_reducible refine Below.alloc ?_ (by first | (simp; done) | (simp; omega) | omega) _ | with_reducible refine Below.setCell ?_ (by first | (simp; done) | (simp; omega) | omega) _ | with_reducible refine Below.drew ?_ | with_reducible refine below_drewN ?_ _))
        clear B2 Ap0 Ap1 Ar0 Ar1 Ar2 Ar3 Af0 Af1 Af2 Af3 Bp0 Bp1 Br0 Br1 Br2 Br3 Bf0 Bf1 Bf2 Bf3 Bk0 Bk1 Bk2 Bk3 Cp0 Cp1 Cr0 Cr1 Cr2 Cr3 Cf0 Cf1 Cf2 Cf3 G1 G2 G3 G4 i1 i2 i3 i4 g1 g2 g3 g4 p0 p1 r0 r1 r2 r3 f0 f1 f2 f3
        have ne1 : w.heap.size + 1 ≠ w2.heap.size := by omega
        have ne2 : w.heap.size ≠ w2.heap.size := by omega
        have HB9 := Lib.hid B9
        generalize hW9 : (w2.alloc (.cells #[.int .i64 X, .int .i64 Y, .int .i64 Z] 23)).alloc (.cells #[.int .i64 T2, .int .i64 X2, .int .i64 Y2, .int .i64 Z2] 100) = w9 at *
        clear hW9 B9 HM
        go_region_held3 (fun w' => w'.cell? ⟨wr.heap.size, 0, none⟩ = some (.int .i64 T) ∧ w'.cell? ⟨wr.heap.size, 1, none⟩ = some (.int .i64 X) ∧ w'.cell? ⟨wr.heap.size, 2, none⟩ = some (.int .i64 Y) ∧ w'.cell? ⟨wr.heap.size, 3, none⟩ = some (.int .i64 Z) ∧ w'.cell? ⟨w2.heap.size, 0, none⟩ = some (.int .i64 X) ∧ w'.cell? ⟨w2.heap.size, 1, none⟩ = some (.int .i64 Y) ∧ w'.cell? ⟨w2.heap.size, 2, none⟩ = some (.int .i64 Z) ∧ w'.cell? ⟨w2.heap.size + 1, 0, none⟩ = some (.int .i64 T2) ∧ w'.cell? ⟨w2.heap.size + 1, 1, none⟩ = some (.int .i64 X2) ∧ w'.cell? ⟨w2.heap.size + 1, 2, none⟩ = some (.int .i64 Y2) ∧ w'.cell? ⟨w2.heap.size + 1, 3, none⟩ = some (.int .i64 Z2)) (simp [go_sem, *])
          (first
            | (go_at_call 74; (with_reducible refine Calls.mono (HS1 _).out ?_); rintro e wa ⟨rfl, hba⟩; have HBa := Lib.hid (thenB (show Below w.heap.size w _ by have B := HB9.out; (repeat (first | with_reducible exact Below.refl _ _ | with_reducible assumption | with_reducible refine Below.alloc ?_ (by first | (simp; done) | (simp; omega) | omega) _ | with_reducible refine Below.setCell ?_ (by first | (simp; done) | (simp; omega) | omega) _ | with_reducible refine Below.drew ?_ | with_reducible refine below_drewN ?_ _))) hba); have Ep0 := keep hba Dp0; have Ep1 := keep hba Dp1; have Er0 := keep hba Dr0; have Er1 := keep hba Dr1; have Er2 := keep hba Dr2; have Er3 := keep hba Dr3; have Ek0 := keep hba Dk0; have Ek1 := keep hba Dk1; have Ek2 := keep hba Dk2; have Ek3 := keep hba Dk3; have Ea0 := keep hba Da0; have Ea1 := keep hba Da1; have Ea2 := keep hba Da2; have En0 := keep hba Dn0; have En1 := keep hba Dn1; have En2 := keep hba Dn2; have En3 := keep hba Dn3; have Ef0 := (hba.frozen (p := ⟨w.heap.size + 1, 0, none⟩) (by show w.heap.size + 1 < _; exact lt_of Dr0)).trans Df0; have Ef1 := (hba.frozen (p := ⟨w.heap.size + 1, 1, none⟩) (by show w.heap.size + 1 < _; exact lt_of Dr0)).trans Df1; have Ef2 := (hba.frozen (p := ⟨w.heap.size + 1, 2, none⟩) (by show w.heap.size + 1 < _; exact lt_of Dr0)).trans Df2; have Ef3 := (hba.frozen (p := ⟨w.heap.size + 1, 3, none⟩) (by show w.heap.size + 1 < _; exact lt_of Dr0)).trans Df3; clear hba)
            | (go_at_call 72; (with_reducible refine Calls.mono (HM2 _).out ?_); rintro e wb ⟨rfl, hbb2⟩; have HBb := Lib.hid (thenB HBa.out hbb2); have Fp0 := keep hbb2 Ep0; have Fp1 := keep hbb2 Ep1; have Fr0 := keep hbb2 Er0; have Fr1 := keep hbb2 Er1; have Fr2 := keep hbb2 Er2; have Fr3 := keep hbb2 Er3; have Fk0 := keep hbb2 Ek0; have Fk1 := keep hbb2 Ek1; have Fk2 := keep hbb2 Ek2; have Fk3 := keep hbb2 Ek3; have Fa0 := keep hbb2 Ea0; have Fa1 := keep hbb2 Ea1; have Fa2 := keep hbb2 Ea2; have Fn0 := keep hbb2 En0; have Fn1 := keep hbb2 En1; have Fn2 := keep hbb2 En2; have Fn3 := keep hbb2 En3; have Ff0 := (hbb2.frozen (p := ⟨w.heap.size + 1, 0, none⟩) (by show w.heap.size + 1 < _; exact lt_of Er0)).trans Ef0; have Ff1 := (hbb2.frozen (p := ⟨w.heap.size + 1, 1, none⟩) (by show w.heap.size + 1 < _; exact lt_of Er0)).trans Ef1; have Ff2 := (hbb2.frozen (p := ⟨w.heap.size + 1, 2, none⟩) (by show w.heap.size + 1 < _; exact lt_of Er0)).trans Ef2; have Ff3 := (hbb2.frozen (p := ⟨w.heap.size + 1, 3, none⟩) (by show w.heap.size + 1 < _; exact lt_of Er0)).trans Ef3; clear hbb2)
            | (go_at_call 74; (with_reducible refine Calls.mono (HS2 _).out ?_); rintro e wc ⟨rfl, hbc⟩; have HBc := Lib.hid (thenB HBb.out hbc); have Gp0 := keep hbc Fp0; have Gp1 := keep hbc Fp1; have Gr0 := keep hbc Fr0; have Gr1 := keep hbc Fr1; have Gr2 := keep hbc Fr2; have Gr3 := keep hbc Fr3; have Gk0 := keep hbc Fk0; have Gk1 := keep hbc Fk1; have Gk2 := keep hbc Fk2; have Gk3 := keep hbc Fk3; have Ga0 := keep hbc Fa0; have Ga1 := keep hbc Fa1; have Ga2 := keep hbc Fa2; have Gn0 := keep hbc Fn0; have Gn1 := keep hbc Fn1; have Gn2 := keep hbc Fn2; have Gn3 := keep hbc Fn3; have Gf0 := (hbc.frozen (p := ⟨w.heap.size + 1, 0, none⟩) (by show w.heap.size + 1 < _; exact lt_of Fr0)).trans Ff0; have Gf1 := (hbc.frozen (p := ⟨w.heap.size + 1, 1, none⟩) (by show w.heap.size + 1 < _; exact lt_of Fr0)).trans Ff1; have Gf2 := (hbc.frozen (p := ⟨w.heap.size + 1, 2, none⟩) (by show w.heap.size + 1 < _; exact lt_of Fr0)).trans Ff2; have Gf3 := (hbc.frozen (p := ⟨w.heap.size + 1, 3, none⟩) (by show w.heap.size + 1 < _; exact lt_of Fr0)).trans Ff3; clear hbc)
            | (go_at_call 73; (with_reducible refine Calls.mono (HPL _).out ?_); rintro e wd ⟨rfl, hbd⟩; have HBd := Lib.hid (thenB HBc.out hbd); have Hp0 := keep hbd Gp0; have Hp1 := keep hbd Gp1; have Hr0 := keep hbd Gr0; have Hr1 := keep hbd Gr1; have Hr2 := keep hbd Gr2; have Hr3 := keep hbd Gr3; have Hk0 := keep hbd Gk0; have Hk1 := keep hbd Gk1; have Hk2 := keep hbd Gk2; have Hk3 := keep hbd Gk3; have Ha0 := keep hbd Ga0; have Ha1 := keep hbd Ga1; have Ha2 := keep hbd Ga2; have Hn0 := keep hbd Gn0; have Hn1 := keep hbd Gn1; have Hn2 := keep hbd Gn2; have Hn3 := keep hbd Gn3; have Hf0 := (hbd.frozen (p := ⟨w.heap.size + 1, 0, none⟩) (by show w.heap.size + 1 < _; exact lt_of Gr0)).trans Gf0; have Hf1 := (hbd.frozen (p := ⟨w.heap.size + 1, 1, none⟩) (by show w.heap.size + 1 < _; exact lt_of Gr0)).trans Gf1; have Hf2 := (hbd.frozen (p := ⟨w.heap.size + 1, 2, none⟩) (by show w.heap.size + 1 < _; exact lt_of Gr0)).trans Gf2; have Hf3 := (hbd.frozen (p := ⟨w.heap.size + 1, 3, none⟩) (by show w.heap.size + 1 < _; exact lt_of Gr0)).trans Gf3; clear hbd))
        all_goals
          go_wp2_with fail
          refine bodyPost_ret (v := .agg #[.int .i64 (ax + ux), .int .i64 (ay + uy), .int .i64 (az + uz), .int .i64 TT]) (by simp [results, Tryz.results36, go_sem, Hr0, Hr1, Hr2, Hr3]) rfl ?_
          obtain ⟨v1, v2, v3, v4⟩ := HPE.out
          have hw1 : w.heap.size ≤ w.heap.size + 1 := by omega
          have B := HBd.out
          exact ⟨by rw [v1, v2, v3, v4], by (repeat (first | with_reducible exact Below.refl _ _ | with_reducible assumption | with_reducible refine Below.alloc ?_ (by first | (simp; done) | (simp; omega) | omega) _ | with_reducible refine Below.setCell ?_ (by first | (simp; done) | (simp; omega) | omega) _ | with_reducible refine Below.drew ?_ | with_reducible refine below_drewN ?_ _))⟩
      · have hst : time < (k m).t → j + 1 < m := fun q => by
          rcases Nat.lt_or_eq_of_le hjlt with q' | q'
          · exact q'
          · exfalso; apply hlast; rw [show j + 1 = m from q']; exact q
        have HST := Lib.hid hst
        have HJ := Lib.hid hjlt
        clear HAH HCH hjm M0 e t1 t2 x1 x2 y1 y2 z1 z2 m1 m2 hst d1 d2 d3 d4 i2 i3 i4
        generalize (k (j + 1)).t = T2 at *
        generalize (k j).t = T at *
        generalize (k j).x = X at *
        generalize (k j).y = Y at *
        generalize (k j).z = Z at *
        go_wp2_with (first
          | (go_at_call 72; go_loud ((with_reducible refine Calls.mono (HM _).out ?_); rintro e w2 ⟨rfl, hb2⟩; have Ap0 := keepA ((.cells #[.int .i64 T, .int .i64 X, .int .i64 Y, .int .i64 Z] 100)) p0; have Ap1 := keepA ((.cells #[.int .i64 T, .int .i64 X, .int .i64 Y, .int .i64 Z] 100)) p1; have Ar0 := keepA ((.cells #[.int .i64 T, .int .i64 X, .int .i64 Y, .int .i64 Z] 100)) r0; have Ar1 := keepA ((.cells #[.int .i64 T, .int .i64 X, .int .i64 Y, .int .i64 Z] 100)) r1; have Ar2 := keepA ((.cells #[.int .i64 T, .int .i64 X, .int .i64 Y, .int .i64 Z] 100)) r2; have Ar3 := keepA ((.cells #[.int .i64 T, .int .i64 X, .int .i64 Y, .int .i64 Z] 100)) r3; have Af0 := (fro1 (p1 := (.cells #[.int .i64 T, .int .i64 X, .int .i64 Y, .int .i64 Z] 100)) (by rw [r0]; rfl)).trans f0; have Af1 := (fro1 (p1 := (.cells #[.int .i64 T, .int .i64 X, .int .i64 Y, .int .i64 Z] 100)) (by rw [r1]; rfl)).trans f1; have Af2 := (fro1 (p1 := (.cells #[.int .i64 T, .int .i64 X, .int .i64 Y, .int .i64 Z] 100)) (by rw [r2]; rfl)).trans f2; have Af3 := (fro1 (p1 := (.cells #[.int .i64 T, .int .i64 X, .int .i64 Y, .int .i64 Z] 100)) (by rw [r3]; rfl)).trans f3; have B2 := thenB (show Below w.heap.size w _ by (repeat (first | with_reducible exact Below.refl _ _ | with_reducible assumption | with_reducible refine Below.alloc ?_ (by first | (simp; done) | (simp; omega) | omega) _ | with_reducible refine Below.setCell ?_ (by first | (simp; done) | (simp; omega) | omega) _ | with_reducible refine Below.drew ?_ | with_reducible refine below_drewN ?_ _))) hb2; have Bz := B2.size; have Bp0 := keep hb2 Ap0; have Bp1 := keep hb2 Ap1; have Br0 := keep hb2 Ar0; have Br1 := keep hb2 Ar1; have Br2 := keep hb2 Ar2; have Br3 := keep hb2 Ar3; have Bf0 := (hb2.frozen (p := ⟨w.heap.size + 1, 0, none⟩) (by show w.heap.size + 1 < _; exact lt_of Ar0)).trans Af0; have Bf1 := (hb2.frozen (p := ⟨w.heap.size + 1, 1, none⟩) (by show w.heap.size + 1 < _; exact lt_of Ar0)).trans Af1; have Bf2 := (hb2.frozen (p := ⟨w.heap.size + 1, 2, none⟩) (by show w.heap.size + 1 < _; exact lt_of Ar0)).trans Af2; have Bf3 := (hb2.frozen (p := ⟨w.heap.size + 1, 3, none⟩) (by show w.heap.size + 1 < _; exact lt_of Ar0)).trans Af3; have Bk0 := (hb2.cell (p := ⟨wr.heap.size, 0, none⟩) (by first | (simp; done) | (simp; omega) | omega)).trans (show _ = some (.int .i64 T) by simp [go_sem]); have Bk1 := (hb2.cell (p := ⟨wr.heap.size, 1, none⟩) (by first | (simp; done) | (simp; omega) | omega)).trans (show _ = some (.int .i64 X) by simp [go_sem]); have Bk2 := (hb2.cell (p := ⟨wr.heap.size, 2, none⟩) (by first | (simp; done) | (simp; omega) | omega)).trans (show _ = some (.int .i64 Y) by simp [go_sem]); have Bk3 := (hb2.cell (p := ⟨wr.heap.size, 3, none⟩) (by first | (simp; done) | (simp; omega) | omega)).trans (show _ = some (.int .i64 Z) by simp [go_sem]); have Cp0 := keepA ((.cells #[.int .i64 X, .int .i64 Y, .int .i64 Z] 23)) Bp0; have Cp1 := keepA ((.cells #[.int .i64 X, .int .i64 Y, .int .i64 Z] 23)) Bp1; have Cr0 := keepA ((.cells #[.int .i64 X, .int .i64 Y, .int .i64 Z] 23)) Br0; have Cr1 := keepA ((.cells #[.int .i64 X, .int .i64 Y, .int .i64 Z] 23)) Br1; have Cr2 := keepA ((.cells #[.int .i64 X, .int .i64 Y, .int .i64 Z] 23)) Br2; have Cr3 := keepA ((.cells #[.int .i64 X, .int .i64 Y, .int .i64 Z] 23)) Br3; have Cf0 := (fro1 (p1 := (.cells #[.int .i64 X, .int .i64 Y, .int .i64 Z] 23)) (by rw [Br0]; rfl)).trans Bf0; have Cf1 := (fro1 (p1 := (.cells #[.int .i64 X, .int .i64 Y, .int .i64 Z] 23)) (by rw [Br1]; rfl)).trans Bf1; have Cf2 := (fro1 (p1 := (.cells #[.int .i64 X, .int .i64 Y, .int .i64 Z] 23)) (by rw [Br2]; rfl)).trans Bf2; have Cf3 := (fro1 (p1 := (.cells #[.int .i64 X, .int .i64 Y, .int .i64 Z] 23)) (by rw [Br3]; rfl)).trans Bf3; have G1 := keepA (.cells #[.int .i64 X, .int .i64 Y, .int .i64 Z] 23) (keep hb2 (keepA (.cells #[.int .i64 T, .int .i64 X, .int .i64 Y, .int .i64 Z] 100) i1)); clear hb2)))
        go_roundw
        case rel => exact ⟨j + 1, HJ.out, HST.out, by go_num, ⟨by (repeat (first | with_reducible exact Below.refl _ _ | with_reducible assumption | with_reducible refine Below.alloc ?_ (by first | (simp; done) | (simp; omega) | omega) _ | with_reducible refine Below.setCell ?_ (by first | (simp; done) | (simp; omega) | omega) _ | with_reducible refine Below.drew ?_ | with_reducible refine below_drewN ?_ _)), lt_of Cr0⟩, ⟨Cp0, Cp1⟩, ⟨Cr0, Cr1, Cr2, Cr3⟩, ⟨Cf0, Cf1, Cf2, Cf3⟩⟩
        case measure => simp [intOf]; omega
end Go.Proofs.YtjncjoaohonmjaaGreat
