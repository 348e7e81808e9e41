/- Helpers: the two examples that TopPathLightTimes asks first. -/
import Derived.Test.YtjncjoaohonmjaaGreatB19
import Derived.Test.YtjncjoaohonmjaaGreatB24
namespace Go.Proofs.YtjncjoaohonmjaaGreat
open Go.RowKit Go.Shelf Go.Sort
attribute [local go_sem] idx3_0 idx3_1 idx3_2 old1 fro1 old2 fro2 old3 fro3 old4 fro4 old5 fro5 old6 fro6 old7 fro7 old8 fro8 old9 fro9 old10 fro10 old11 fro11 old12 fro12
set_option maxRecDepth 100000 in
set_option maxHeartbeats 2000000 in
theorem pathAwake_any (w : World) : Calls Tryz.prog 4 #[] w fun e w' => e = .returned (.bool true) ∧ Below w.heap.size w w' := by
  go_enter Tryz.func4, Tryz.ntmps4
  go_wp2_with (first
    | (go_at_call 22; (with_reducible refine Calls.mono (station_any _) ?_); rintro e w1 ⟨b1, rfl, t1, hb1⟩; have B := thenB (show Below w.heap.size w _ by (repeat (first | with_reducible exact Below.refl _ _ | with_reducible assumption | with_reducible refine Below.alloc ?_ (by first | (simp; done) | (simp; omega) | omega) _ | with_reducible refine Below.setCell ?_ (by first | (simp; done) | (simp; omega) | omega) _ | with_reducible refine Below.drew ?_ | with_reducible refine below_drewN ?_ _))) hb1; have Bz := B.size)
    | (go_at_call 23; (with_reducible refine Calls.mono (probe_any _) ?_); rintro e w2 ⟨b2, rfl, t2, hb2⟩; have t3 := t1.below hb2; have B := thenB (show Below w.heap.size w _ by (repeat (first | with_reducible exact Below.refl _ _ | with_reducible assumption | with_reducible refine Below.alloc ?_ (by first | (simp; done) | (simp; omega) | omega) _ | with_reducible refine Below.setCell ?_ (by first | (simp; done) | (simp; omega) | omega) _ | with_reducible refine Below.drew ?_ | with_reducible refine below_drewN ?_ _))) hb2; have Bz := B.size)
    | (go_at_call 21; (with_reducible refine Calls.mono (ex1 _ _ _ t3 t2) ?_); rintro e w3 ⟨rfl, hb3⟩; have B := thenB (show Below w.heap.size w _ by (repeat (first | with_reducible exact Below.refl _ _ | with_reducible assumption | with_reducible refine Below.alloc ?_ (by first | (simp; done) | (simp; omega) | omega) _ | with_reducible refine Below.setCell ?_ (by first | (simp; done) | (simp; omega) | omega) _ | with_reducible refine Below.drew ?_ | with_reducible refine below_drewN ?_ _))) hb3; have Bz := B.size)
    | (go_at_call 24; (with_reducible refine Calls.mono (ex2 _ _ _ t3 t2) ?_); rintro e w4 ⟨rfl, hb4⟩; have d0 := keep hb4 (keep hb2 (keep hb1 (two_new (w := w3)).1)); have d1 := keep hb4 (keep hb2 (keep hb1 (two_new (w := w3)).2)); have B := thenB (show Below w.heap.size w _ by (repeat (first | with_reducible exact Below.refl _ _ | with_reducible assumption | with_reducible refine Below.alloc ?_ (by first | (simp; done) | (simp; omega) | omega) _ | with_reducible refine Below.setCell ?_ (by first | (simp; done) | (simp; omega) | omega) _ | with_reducible refine Below.drew ?_ | with_reducible refine below_drewN ?_ _))) hb4; have Bz := B.size))
  all_goals
    go_ret
    exact ⟨rfl, by (repeat (first | with_reducible exact Below.refl _ _ | with_reducible assumption | with_reducible refine Below.alloc ?_ (by first | (simp; done) | (simp; omega) | omega) _ | with_reducible refine Below.setCell ?_ (by first | (simp; done) | (simp; omega) | omega) _ | with_reducible refine Below.drew ?_ | with_reducible refine below_drewN ?_ _))⟩
end Go.Proofs.YtjncjoaohonmjaaGreat
namespace Go.Proofs.YtjncjoaohonmjaaGreat
open Go.RowKit Go.Shelf Go.Sort
attribute [local go_sem] idx3_0 idx3_1 idx3_2 old1 fro1 old2 fro2 old3 fro3 old4 fro4 old5 fro5 old6 fro6 old7 fro7 old8 fro8 old9 fro9 old10 fro10 old11 fro11 old12 fro12
theorem exc_not (x y z : Int) : (!exc x y z 100) = (wi x (-100) 100 && wi y (-100) 100 && wi z (-100) 100) := by unfold exc; simp
set_option maxRecDepth 100000 in
set_option maxHeartbeats 400000 in
theorem risAxis_any (x y z : Int) (w : World) :
    Calls Tryz.prog 59 #[.agg #[.int .i64 x, .int .i64 y, .int .i64 z]] w fun e w' => e = .returned (.bool (!exc x y z 100)) ∧ Below w.heap.size w w' := by
  rw [exc_not]
  cases hx : wi x (-100) 100
  all_goals cases hy : wi y (-100) 100
  all_goals cases hz : wi z (-100) 100
  all_goals
    simp only [Bool.and_true, Bool.and_false]
    go_enter Tryz.func59, Tryz.ntmps59
    go_wp2_with (go_at_call 27; (with_reducible refine (bwithin_any _ _ _ _).mono ?_); rintro e w' ⟨rfl, rfl⟩)
    go_ret
    exact ⟨rfl, by (repeat (first | with_reducible exact Below.refl _ _ | with_reducible assumption | with_reducible refine Below.alloc ?_ (by first | (simp; done) | (simp; omega) | omega) _ | with_reducible refine Below.setCell ?_ (by first | (simp; done) | (simp; omega) | omega) _ | with_reducible refine Below.drew ?_ | with_reducible refine below_drewN ?_ _))⟩
theorem axErr_e {x y z : Int} (h : exc x y z 100 = true) : axErr x y z = 2 := by unfold axErr; rw [if_pos h]
theorem axErr_z {x y z : Int} (h : exc x y z 100 = false) (hz : x = 0 ∧ y = 0 ∧ z = 0) : axErr x y z = 11 := by unfold axErr; rw [if_neg (by rw [h]; simp), if_pos hz]
theorem axErr_0 {x y z : Int} (h : exc x y z 100 = false) (hz : ¬ (x = 0 ∧ y = 0 ∧ z = 0)) : axErr x y z = 0 := by unfold axErr; rw [if_neg (by rw [h]; simp), if_neg hz]
/-- what a cone's error is, by the reference's tests -/
theorem coneErr_cases (c : Cone) : (exc c.x c.y c.z 100 = true ∧ coneErr c = 2) ∨ (exc c.x c.y c.z 100 = false ∧ (c.x = 0 ∧ c.y = 0 ∧ c.z = 0) ∧ coneErr c = 11) ∨
    (exc c.x c.y c.z 100 = false ∧ ¬ (c.x = 0 ∧ c.y = 0 ∧ c.z = 0) ∧ ((wi c.d 1 100 = false ∧ coneErr c = 2) ∨ (wi c.d 1 100 = true ∧ wi c.u 0 c.d = false ∧ coneErr c = 2) ∨ (wi c.d 1 100 = true ∧ wi c.u 0 c.d = true ∧ coneErr c = 0))) := by
  unfold coneErr
  cases he : exc c.x c.y c.z 100
  · by_cases hz : c.x = 0 ∧ c.y = 0 ∧ c.z = 0
    · rw [axErr_z he hz]
      exact Or.inr (Or.inl ⟨rfl, hz, if_neg (by decide)⟩)
    · rw [axErr_0 he hz]
      refine Or.inr (Or.inr ⟨rfl, hz, ?_⟩)
      cases hd : wi c.d 1 100
      · exact Or.inl ⟨rfl, rfl⟩
      · cases hu : wi c.u 0 c.d
        · exact Or.inr (Or.inl ⟨rfl, rfl, rfl⟩)
        · exact Or.inr (Or.inr ⟨rfl, rfl, rfl⟩)
  · rw [axErr_e he]
    exact Or.inl ⟨rfl, if_neg (by decide)⟩
set_option maxRecDepth 100000 in
set_option maxHeartbeats 4000000 in
theorem rcheckSite_m (x y z : Int) (A : Option Addr) (n c : Nat) (k : Nat → Cone) (w : World) (h4 : n ≤ 4) (he : exc x y z 100 = false) (hnz : ¬ (x = 0 ∧ y = 0 ∧ z = 0)) (hk : KC w A n k) :
    Calls Tryz.prog 25 #[.agg #[.int .i64 x, .int .i64 y, .int .i64 z, .slice A n c]] w fun e w' => e = .returned (.tuple #[.int .i64 (siteRes x y z n k).1, .int .i64 (siteRes x y z n k).2]) ∧ Below w.heap.size w w' := by
  have HA := Lib.hid (fun W => (by have := risAxis_any x y z W; rwa [he] at this : Calls Tryz.prog 59 #[.agg #[.int .i64 x, .int .i64 y, .int .i64 z]] W fun e w' => e = .returned (.bool true) ∧ Below W.heap.size W w'))
  have hs : siteRes x y z n k = coRes (coFrom k 0 n) := by
    unfold siteRes
    rw [if_pos (axErr_0 he hnz), if_neg (by omega)]
  have HS := Lib.hid hs
  have HK := Lib.hid hk
  clear hs hk he
  go_enter Tryz.func25, Tryz.ntmps25
  go_wp2_with (go_at_call 59; (with_reducible refine Calls.mono (HA.out _) ?_); rintro e w1 ⟨rfl, hb1⟩; have B1 := Lib.hid (belowT (show Below w.heap.size w _ by (repeat (first | with_reducible exact Below.refl _ _ | with_reducible assumption | with_reducible refine Below.alloc ?_ (by first | (simp; done) | (simp; omega) | omega) _ | with_reducible refine Below.setCell ?_ (by first | (simp; done) | (simp; omega) | omega) _ | with_reducible refine Below.drew ?_ | with_reducible refine below_drewN ?_ _))) hb1); have k0 := keep hb1 (b := w.heap.size) (o := 0) (v := .int .i64 x) (by simp [go_sem]); have k1 := keep hb1 (b := w.heap.size) (o := 1) (v := .int .i64 y) (by simp [go_sem]); have k2 := keep hb1 (b := w.heap.size) (o := 2) (v := .int .i64 z) (by simp [go_sem]); have k3 := keep hb1 (b := w.heap.size) (o := 3) (v := .slice A n c) (by simp [go_sem]); clear hb1)
  all_goals
    clear HA k0 k1 k2
    go_loopw [4] (fun i wr => ∃ j : Nat, j ≤ n ∧ i = .int .i64 j ∧ Below w.heap.size w wr ∧ wr.cell? ⟨w.heap.size, 3, none⟩ = some (.slice A n c) ∧ Hid (coFrom k 0 n = coFrom k j (n - j))) (fun i _ => n - (intOf i).toNat)
    case atStart => exact ⟨0, Nat.zero_le _, rfl, B1.out, k3, rfl⟩
    case round =>
      obtain ⟨j, hj, rfl, hbel, r3, H2⟩ := hrel
      have HB := Lib.hid hbel
      clear hbel k3 B1
      by_cases hlt : j < n
      · have HS2 : Hid (coFrom k j (n - j) = if coneErr (k j) = 0 then coFrom k (j + 1) (n - (j + 1)) else some (j, coneErr (k j))) := by
          rw [show n - j = (n - (j + 1)) + 1 from by omega]; rfl
        have HER : Hid (coneErr (k j) ≠ 0 → siteRes x y z n k = ((j : Int), coneErr (k j))) := fun hne => by rw [HS.out, H2.out, HS2.out, if_neg hne]; rfl
        have HOK : Hid (coneErr (k j) = 0 → coFrom k 0 n = coFrom k (j + 1) (n - (j + 1))) := fun hz => by rw [H2.out, HS2.out, if_pos hz]
        clear HS2 H2 HS
        obtain ⟨b, off, rfl, hkt⟩ := (HK.out.bel HB.out) (by omega)
        obtain ⟨q0, q1, q2, q3, q4⟩ := hkt.2 j hlt
        have hbl := hkt.1
        clear hkt
        have hcases := coneErr_cases (k j)
        have HC := Lib.hid (fun W => risAxis_any (k j).x (k j).y (k j).z W)
        generalize coneErr (k j) = ek at *
        generalize (k j).x = kx at *
        generalize (k j).y = ky at *
        generalize (k j).z = kz at *
        generalize (k j).u = ku at *
        generalize (k j).d = kd at *
        rcases hcases with ⟨hx, rfl⟩ | ⟨hx, ⟨rfl, rfl, rfl⟩, rfl⟩ | ⟨hx, hzz, hd⟩
        · rw [hx] at HC
          go_wp2_with (go_at_call 59; (with_reducible refine Calls.mono (HC.out _) ?_); rintro e w2 ⟨rfl, hb2⟩; have B2 := Lib.hid (belowT (show Below w.heap.size w _ by have Bq := HB.out; have Bz := Bq.size; (repeat (first | with_reducible exact Below.refl _ _ | with_reducible assumption | with_reducible refine Below.alloc ?_ (by first | (simp; done) | (simp; omega) | omega) _ | with_reducible refine Below.setCell ?_ (by first | (simp; done) | (simp; omega) | omega) _ | with_reducible refine Below.drew ?_ | with_reducible refine below_drewN ?_ _))) hb2); clear hb2)
          go_ret2
          exact ⟨by rw [HER.out (by decide)]; rfl, B2.out⟩
        · rw [hx] at HC
          go_wp2_with (go_at_call 59; (with_reducible refine Calls.mono (HC.out _) ?_); rintro e w2 ⟨rfl, hb2⟩; have B2 := Lib.hid (belowT (show Below w.heap.size w _ by have Bq := HB.out; have Bz := Bq.size; (repeat (first | with_reducible exact Below.refl _ _ | with_reducible assumption | with_reducible refine Below.alloc ?_ (by first | (simp; done) | (simp; omega) | omega) _ | with_reducible refine Below.setCell ?_ (by first | (simp; done) | (simp; omega) | omega) _ | with_reducible refine Below.drew ?_ | with_reducible refine below_drewN ?_ _))) hb2); have p0 := keep hb2 (b := wr.heap.size) (o := 0) (v := .int .i64 0) (by simp [go_sem]); have p1 := keep hb2 (b := wr.heap.size) (o := 1) (v := .int .i64 0) (by simp [go_sem]); have p2 := keep hb2 (b := wr.heap.size) (o := 2) (v := .int .i64 0) (by simp [go_sem]); clear hb2)
          go_ret2
          exact ⟨by rw [HER.out (by decide)]; rfl, B2.out⟩
        · rw [hx] at HC
          rcases hd with ⟨hd, rfl⟩ | ⟨hd, hu, rfl⟩ | ⟨hd, hu, rfl⟩
          all_goals
            go_wp2_with (first | (go_at_call 59; (with_reducible refine Calls.mono (HC.out _) ?_); rintro e w2 ⟨rfl, hb2⟩; have B2 := Lib.hid (belowT (show Below w.heap.size w _ by have Bq := HB.out; have Bz := Bq.size; (repeat (first | with_reducible exact Below.refl _ _ | with_reducible assumption | with_reducible refine Below.alloc ?_ (by first | (simp; done) | (simp; omega) | omega) _ | with_reducible refine Below.setCell ?_ (by first | (simp; done) | (simp; omega) | omega) _ | with_reducible refine Below.drew ?_ | with_reducible refine below_drewN ?_ _))) hb2); have r3_ := keep hb2 (b := w.heap.size) (o := 3) (v := .slice (some ⟨b, off, none⟩) n c) (keep ((Below.refl wr.heap.size wr).alloc (Nat.le_refl _) _) r3); have p0 := keep hb2 (b := wr.heap.size) (o := 0) (v := .int .i64 kx) (by simp [go_sem]); have p1 := keep hb2 (b := wr.heap.size) (o := 1) (v := .int .i64 ky) (by simp [go_sem]); have p2 := keep hb2 (b := wr.heap.size) (o := 2) (v := .int .i64 kz) (by simp [go_sem]); have p3 := keep hb2 (b := wr.heap.size) (o := 3) (v := .int .i64 ku) (by simp [go_sem]); have p4 := keep hb2 (b := wr.heap.size) (o := 4) (v := .int .i64 kd) (by simp [go_sem]); clear hb2) | (go_at_call 27; (with_reducible refine (bwithin_any _ _ _ _).mono ?_); rintro e w' ⟨rfl, rfl⟩))
          all_goals first
            | (go_ret2; exact ⟨by rw [HER.out (by decide)]; rfl, B2.out⟩)
            | (go_roundw; (case rel => exact ⟨j + 1, by omega, by go_num, B2.out, r3_, HOK.out trivial⟩); (case measure => simp [intOf]; omega))
      · obtain rfl : j = n := by omega
        have hv : siteRes x y z j k = (0, 0) := by
          rw [HS.out, H2.out, Nat.sub_self]; rfl
        have HV := Lib.hid hv
        clear hv
        go_wp2_with fail
        go_ret2
        exact ⟨by rw [HV.out]; rfl, HB.out⟩
set_option maxRecDepth 100000 in
set_option maxHeartbeats 2000000 in
theorem rcheckSite_any (x y z : Int) (A : Option Addr) (n c : Nat) (k : Nat → Cone) (w : World) (hn : n ≤ 9223372036854775807) (hk : KC w A n k) :
    Calls Tryz.prog 25 #[.agg #[.int .i64 x, .int .i64 y, .int .i64 z, .slice A n c]] w fun e w' => e = .returned (.tuple #[.int .i64 (siteRes x y z n k).1, .int .i64 (siteRes x y z n k).2]) ∧ Below w.heap.size w w' := by
  have HA := Lib.hid (fun W => risAxis_any x y z W)
  cases he : exc x y z 100
  · by_cases hz : x = 0 ∧ y = 0 ∧ z = 0
    · have e : siteRes x y z n k = (0, 11) := by unfold siteRes; rw [axErr_z he hz]; rfl
      rw [e]
      rw [he] at HA
      obtain ⟨rfl, rfl, rfl⟩ := hz
      clear e hk
      go_enter Tryz.func25, Tryz.ntmps25
      go_wp2_with (go_at_call 59; (with_reducible refine Calls.mono (HA.out _) ?_); rintro e w1 ⟨rfl, hb1⟩; have B1 := Lib.hid (belowT (show Below w.heap.size w _ by (repeat (first | with_reducible exact Below.refl _ _ | with_reducible assumption | with_reducible refine Below.alloc ?_ (by first | (simp; done) | (simp; omega) | omega) _ | with_reducible refine Below.setCell ?_ (by first | (simp; done) | (simp; omega) | omega) _ | with_reducible refine Below.drew ?_ | with_reducible refine below_drewN ?_ _))) hb1); have k0 := keep hb1 (b := w.heap.size) (o := 0) (v := .int .i64 0) (by simp [go_sem]); have k1 := keep hb1 (b := w.heap.size) (o := 1) (v := .int .i64 0) (by simp [go_sem]); have k2 := keep hb1 (b := w.heap.size) (o := 2) (v := .int .i64 0) (by simp [go_sem]); clear hb1)
      go_ret2
      exact ⟨rfl, B1.out⟩
    · by_cases h4 : n ≤ 4
      · exact rcheckSite_m x y z A n c k w h4 he hz hk
      · have e : siteRes x y z n k = (0, 8) := by unfold siteRes; rw [if_pos (axErr_0 he hz), if_pos (by omega)]
        rw [e]
        rw [he] at HA
        clear he e hk
        have hg : decide ((n : Int) > 4) = true := by rw [decide_eq_true_eq]; omega
        go_enter Tryz.func25, Tryz.ntmps25
        go_wp2_with (go_at_call 59; (with_reducible refine Calls.mono (HA.out _) ?_); rintro e w1 ⟨rfl, hb1⟩; have B1 := Lib.hid (belowT (show Below w.heap.size w _ by (repeat (first | with_reducible exact Below.refl _ _ | with_reducible assumption | with_reducible refine Below.alloc ?_ (by first | (simp; done) | (simp; omega) | omega) _ | with_reducible refine Below.setCell ?_ (by first | (simp; done) | (simp; omega) | omega) _ | with_reducible refine Below.drew ?_ | with_reducible refine below_drewN ?_ _))) hb1); have k0 := keep hb1 (b := w.heap.size) (o := 0) (v := .int .i64 x) (by simp [go_sem]); have k1 := keep hb1 (b := w.heap.size) (o := 1) (v := .int .i64 y) (by simp [go_sem]); have k2 := keep hb1 (b := w.heap.size) (o := 2) (v := .int .i64 z) (by simp [go_sem]); have k3 := keep hb1 (b := w.heap.size) (o := 3) (v := .slice A n c) (by simp [go_sem]); clear hb1)
        all_goals
          go_ret2
          exact ⟨rfl, B1.out⟩
  · have e : siteRes x y z n k = (0, 2) := by unfold siteRes; rw [axErr_e he]; rfl
    rw [e]
    rw [he] at HA
    clear he e hk
    go_enter Tryz.func25, Tryz.ntmps25
    go_wp2_with (go_at_call 59; (with_reducible refine Calls.mono (HA.out _) ?_); rintro e w1 ⟨rfl, hb1⟩; have B1 := Lib.hid (belowT (show Below w.heap.size w _ by (repeat (first | with_reducible exact Below.refl _ _ | with_reducible assumption | with_reducible refine Below.alloc ?_ (by first | (simp; done) | (simp; omega) | omega) _ | with_reducible refine Below.setCell ?_ (by first | (simp; done) | (simp; omega) | omega) _ | with_reducible refine Below.drew ?_ | with_reducible refine below_drewN ?_ _))) hb1); clear hb1)
    go_ret2
    exact ⟨rfl, B1.out⟩
end Go.Proofs.YtjncjoaohonmjaaGreat
