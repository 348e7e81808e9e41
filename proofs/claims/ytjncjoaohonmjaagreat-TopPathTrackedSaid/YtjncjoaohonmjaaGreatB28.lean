/- Helpers: the document's own check of a track is the program's. -/
import Derived.Test.YtjncjoaohonmjaaGreatB27
import Derived.Test.YtjncjoaohonmjaaGreatB08
import Derived.Test.YtjncjoaohonmjaaGreatB23
import Derived.Test.YtjncjoaohonmjaaGreatB21
import Derived.Test.YtjncjoaohonmjaaGreatB19
import Derived.Test.YtjncjoaohonmjaaGreatB26
namespace Go.Proofs.YtjncjoaohonmjaaGreat
open Go.RowKit Go.Shelf Go.Sort
attribute [local go_sem] idx3_0 idx3_1 idx3_2 old1 fro1 old2 fro2 old3 fro3 old4 fro4 old5 fro5 old6 fro6 old7 fro7 old8 fro8 old9 fro9 old10 fro10 old11 fro11 old12 fro12
set_option maxRecDepth 100000 in
set_option maxHeartbeats 400000 in
theorem rcheckTrack_0 (A : Option Addr) (c : Nat) (d : Int) (w : World) :
    Calls Tryz.prog 102 #[.agg #[.slice A 0 c, .int .i64 d]] w fun e w' => e = .returned (.tuple #[.int .i64 0, .int .i64 10]) ∧ Below w.heap.size w w' := by
  go_enter Tryz.func102, Tryz.ntmps102
  go_wp2
  go_ret2
  exact ⟨rfl, by (repeat (first | with_reducible exact Below.refl _ _ | with_reducible assumption | with_reducible refine Below.alloc ?_ (by first | (simp; done) | (simp; omega) | omega) _ | with_reducible refine Below.setCell ?_ (by first | (simp; done) | (simp; omega) | omega) _ | with_reducible refine Below.drew ?_ | with_reducible refine below_drewN ?_ _))⟩
set_option maxRecDepth 100000 in
set_option maxHeartbeats 400000 in
theorem rcheckTrack_l (A : Option Addr) (n c : Nat) (d : Int) (w : World) (h : 12 < n) (hn : n ≤ 9223372036854775807) :
    Calls Tryz.prog 102 #[.agg #[.slice A n c, .int .i64 d]] w fun e w' => e = .returned (.tuple #[.int .i64 0, .int .i64 8]) ∧ Below w.heap.size w w' := by
  have hz : ((n : Int) == 0) = false := by simp; omega
  go_enter Tryz.func102, Tryz.ntmps102
  go_wp2
  go_ret2
  exact ⟨rfl, by (repeat (first | with_reducible exact Below.refl _ _ | with_reducible assumption | with_reducible refine Below.alloc ?_ (by first | (simp; done) | (simp; omega) | omega) _ | with_reducible refine Below.setCell ?_ (by first | (simp; done) | (simp; omega) | omega) _ | with_reducible refine Below.drew ?_ | with_reducible refine below_drewN ?_ _))⟩
set_option maxRecDepth 100000 in
set_option maxHeartbeats 800000 in
theorem rcheckTrack_m (b off n c : Nat) (d : Int) (w : World) (k : Nat → Knot) (h0 : 0 < n) (h : n ≤ 12) (hk : KAt w b off n k) :
    Calls Tryz.prog 102 #[.agg #[.slice (some ⟨b, off, none⟩) n c, .int .i64 d]] w fun e w' => e = .returned (.tuple #[.int .i64 (ctRes k n d).1, .int .i64 (ctRes k n d).2]) ∧ Below w.heap.size w w' := by
  have hz : ((n : Int) == 0) = false := by simp; omega
  have HK := Lib.hid hk
  have hb := hk.1
  clear hk
  go_enter Tryz.func102, Tryz.ntmps102
  go_wp2_with fail
  go_loopw [4] (fun i wr => ∃ j : Nat, j ≤ n ∧ i = .int .i64 j ∧ Below w.heap.size w wr ∧ w.heap.size < wr.heap.size ∧ wr.cell? ⟨w.heap.size, 0, none⟩ = some (.slice (some ⟨b, off, none⟩) n c) ∧ wr.cell? ⟨w.heap.size, 1, none⟩ = some (.int .i64 d) ∧
    Hid (∀ q, q < j → knotErr k q = 0) ∧ Hid (ctFrom k 0 n = ctFrom k j (n - j))) (fun i _ => n - (intOf i).toNat)
  case atStart => exact ⟨0, Nat.zero_le _, rfl, by (repeat (first | with_reducible exact Below.refl _ _ | with_reducible assumption | with_reducible refine Below.alloc ?_ (by first | (simp; done) | (simp; omega) | omega) _ | with_reducible refine Below.setCell ?_ (by first | (simp; done) | (simp; omega) | omega) _ | with_reducible refine Below.drew ?_ | with_reducible refine below_drewN ?_ _)), by simp, by simp [go_sem], by simp [go_sem], fun q hq => absurd hq (Nat.not_lt_zero _), rfl⟩
  case round =>
    obtain ⟨j, hj, rfl, hbel, hsz, p0, p1, H, H2⟩ := hrel
    have HS : j < n → Hid (ctFrom k j (n - j) = if knotErr k j = 0 then ctFrom k (j + 1) (n - (j + 1)) else some (j, knotErr k j)) := by
      intro hlt
      rw [show n - j = (n - (j + 1)) + 1 from by omega]; rfl
    by_cases hlt : j < n
    · have HS := HS hlt
      have hcon := rknot_any b off n c j wr k hlt (by omega) (HK.out.below hbel hb) (fun h0 => knotErr_ok (H.out (j - 1) (by omega)))
      have hws := hbel.size
      have HB := Lib.hid hbel
      clear hbel
      by_cases hz0 : knotErr k j = 0
      · rw [hz0] at hcon
        have HZ := Lib.hid hz0
        have HC := Lib.hid hcon
        clear hz0 hcon
        go_wp2_with (go_at_call 116; refine HC.out.mono ?_; rintro e w1 ⟨rfl, hb1⟩)
        go_roundw
        case rel => exact ⟨j + 1, by omega, by go_num, HB.out.trans (hb1.mono hws), Nat.lt_of_lt_of_le hsz hb1.size, (hb1.cell (p := ⟨w.heap.size, 0, none⟩) hsz).trans p0, (hb1.cell (p := ⟨w.heap.size, 1, none⟩) hsz).trans p1, fun q hq => (by
          rcases Nat.lt_or_eq_of_le (Nat.le_of_lt_succ hq) with h | h
          · exact H.out q h
          · rw [h]; exact HZ.out), (by show ctFrom k 0 n = _; rw [H2.out, HS.out, if_pos HZ.out])⟩
        case measure => simp [intOf]; omega
      · have HZ := Lib.hid hz0
        have hq : (knotErr k j != 0) = true := by simpa using hz0
        have HC := Lib.hid hcon
        clear hz0 hcon
        have hv : ctRes k n d = ((j : Int), knotErr k j) := by
          unfold ctRes
          rw [if_neg (by omega), if_neg (by omega), H2.out, HS.out, if_neg HZ.out]
        have HV := Lib.hid hv
        clear hv
        generalize knotErr k j = ek at hq HC HV
        go_wp2_with (go_at_call 116; refine HC.out.mono ?_; rintro e w1 ⟨rfl, hb1⟩)
        go_ret2
        exact ⟨by rw [HV.out]; rfl, HB.out.trans (hb1.mono hws)⟩
    · obtain rfl : j = n := by omega
      clear HS
      have HB := Lib.hid hbel
      clear hbel
      have hv : ctRes k j d = if wi d 0 1000 then (0, 0) else (0, 2) := by
        unfold ctRes
        rw [if_neg (by omega), if_neg (by omega), H2.out, Nat.sub_self]; rfl
      have HV := Lib.hid hv
      clear hv
      cases hd : wi d 0 1000
      all_goals
        rw [hd] at HV
        go_wp2_with (go_at_call 27; refine (bwithin_any _ _ _ _).mono ?_; rintro e w' ⟨rfl, rfl⟩)
        go_ret2
        exact ⟨by rw [HV.out]; rfl, HB.out⟩
theorem rcheckTrack_any (A : Option Addr) (n c : Nat) (d : Int) (w : World) (k : Nat → Knot) (hn : n ≤ 9223372036854775807) (hk : KA w A n k) :
    Calls Tryz.prog 102 #[.agg #[.slice A n c, .int .i64 d]] w fun e w' => e = .returned (.tuple #[.int .i64 (ctRes k n d).1, .int .i64 (ctRes k n d).2]) ∧ Below w.heap.size w w' := by
  by_cases h0 : n = 0
  · subst h0
    exact rcheckTrack_0 A c d w
  · by_cases h12 : 12 < n
    · have e : ctRes k n d = (0, 8) := by unfold ctRes; rw [if_neg h0, if_pos h12]
      rw [e]
      exact rcheckTrack_l A n c d w h12 hn
    · obtain ⟨b, off, rfl, hk2⟩ := hk (by omega)
      exact rcheckTrack_m b off n c d w k (by omega) (by omega) hk2
set_option maxRecDepth 100000 in
set_option maxHeartbeats 400000 in
theorem rfirst_any (b off n c : Nat) (d t : Int) (w : World) (hn : 0 < n) (_ : n ≤ 100) (h : w.cell? ⟨b, off, none⟩ = some (.int .i64 t)) :
    Calls Tryz.prog 61 #[.agg #[.slice (some ⟨b, off, none⟩) n c, .int .i64 d]] w fun e w' => e = .returned (.int .i64 t) ∧ ∃ o1, w' = w.alloc o1 := by
  go_enter Tryz.func61, Tryz.ntmps61
  go_wp2
  go_ret
  exact ⟨rfl, _, rfl⟩
set_option maxRecDepth 100000 in
set_option maxHeartbeats 400000 in
theorem rlast_any (b off n c : Nat) (d t : Int) (w : World) (hn : 0 < n) (hn2 : n ≤ 100) (h : w.cell? ⟨b, off + (n - 1) * 4, none⟩ = some (.int .i64 t)) :
    Calls Tryz.prog 62 #[.agg #[.slice (some ⟨b, off, none⟩) n c, .int .i64 d]] w fun e w' => e = .returned (.int .i64 t) ∧ ∃ o1, w' = w.alloc o1 := by
  go_enter Tryz.func62, Tryz.ntmps62
  go_wp2
  go_ret
  exact ⟨rfl, _, rfl⟩
set_option maxRecDepth 100000 in
set_option maxHeartbeats 800000 in
theorem rtimeErr_any (b off n c : Nat) (d time : Int) (w : World) (k : Nat → Knot) (hn : 0 < n) (hn2 : n ≤ 100) (hk : KAt w b off n k) :
    Calls Tryz.prog 28 #[.agg #[.slice (some ⟨b, off, none⟩) n c, .int .i64 d], .int .i64 time] w fun e w' => e = .returned (.int .i64 (if outside time k n then 2 else 0)) ∧ Below w.heap.size w w' := by
  obtain ⟨hb, hkk⟩ := hk
  have c1 := (hkk 0 hn).1
  have c2 := (hkk (n - 1) (by omega)).1
  rw [show off + 0 * 4 = off by omega] at c1
  clear hkk
  unfold outside
  generalize (k 0).t = t0 at c1 ⊢
  generalize (k (n - 1)).t = t1 at c2 ⊢
  cases hw : wi time t0 t1
  all_goals
    go_enter Tryz.func28, Tryz.ntmps28
    go_wp2_with fail
    go_region_held3 (fun w' => w'.cell? ⟨w.heap.size, 0, none⟩ = some (.slice (some ⟨b, off, none⟩) n c) ∧ w'.cell? ⟨w.heap.size, 1, none⟩ = some (.int .i64 d)) (simp [go_sem, *])
      (first | (go_at_call 61; refine (rfirst_any b off n c d t0 _ hn hn2 (by simp [go_sem, *])).mono ?_; rintro e w2 ⟨rfl, o3, rfl⟩) | (go_at_call 62; refine (rlast_any b off n c d t1 _ hn hn2 (by simp [go_sem, *])).mono ?_; rintro e w2 ⟨rfl, o3, rfl⟩) | (go_at_call 27; (with_reducible refine (bwithin_any _ _ _ _).mono ?_); rintro e w' ⟨rfl, rfl⟩))
    all_goals
      go_wp2
      go_ret
      exact ⟨rfl, by (repeat (first | with_reducible exact Below.refl _ _ | with_reducible assumption | with_reducible refine Below.alloc ?_ (by first | (simp; done) | (simp; omega) | omega) _ | with_reducible refine Below.setCell ?_ (by first | (simp; done) | (simp; omega) | omega) _ | with_reducible refine Below.drew ?_ | with_reducible refine below_drewN ?_ _))⟩
end Go.Proofs.YtjncjoaohonmjaaGreat
namespace Go.Proofs.YtjncjoaohonmjaaGreat
open Go.RowKit Go.Shelf Go.Sort
attribute [local go_sem] idx3_0 idx3_1 idx3_2 old1 fro1 old2 fro2 old3 fro3 old4 fro4 old5 fro5 old6 fro6 old7 fro7 old8 fro8 old9 fro9 old10 fro10 old11 fro11 old12 fro12
set_option maxRecDepth 100000 in
set_option maxHeartbeats 800000 in
theorem trackErr_any (A : Option Addr) (n c : Nat) (d : Int) (k : Nat → Knot) (w : World) (hn : n ≤ 9223372036854775807) (hk : KA w A n k) :
    Calls Tryz.prog 60 #[.agg #[.slice A n c, .int .i64 d]] w fun e w' => e = .returned (.int .i64 (ctErr k n d)) ∧ Below w.heap.size w w' := by
  have HC := fun W hW => Lib.hid (rcheckTrack_any A n c d W k hn hW)
  have HA := Lib.hid hk
  have HE : Hid (ctErr k n d = (ctRes k n d).2) := rfl
  clear hk
  generalize (ctRes k n d).2 = e2 at HC HE
  generalize (ctRes k n d).1 = e1 at HC
  go_enter Tryz.func60, Tryz.ntmps60
  go_wp2_with (go_at_call 102; (with_reducible refine Calls.mono (HC _ (HA.out.bel (by (repeat (first | with_reducible exact Below.refl _ _ | with_reducible assumption | with_reducible refine Below.alloc ?_ (by first | (simp; done) | (simp; omega) | omega) _ | with_reducible refine Below.setCell ?_ (by first | (simp; done) | (simp; omega) | omega) _ | with_reducible refine Below.drew ?_ | with_reducible refine below_drewN ?_ _))))).out ?_); rintro e w1 ⟨rfl, hb1⟩; have B1 := Lib.hid (thenB (show Below w.heap.size w _ by (repeat (first | with_reducible exact Below.refl _ _ | with_reducible assumption | with_reducible refine Below.alloc ?_ (by first | (simp; done) | (simp; omega) | omega) _ | with_reducible refine Below.setCell ?_ (by first | (simp; done) | (simp; omega) | omega) _ | with_reducible refine Below.drew ?_ | with_reducible refine below_drewN ?_ _))) hb1); clear hb1)
  go_ret
  exact ⟨ret_int HE.out.symm, B1.out⟩
set_option maxRecDepth 100000 in
set_option maxHeartbeats 800000 in
theorem bothErr_any (A B : Option Addr) (n c m c' : Nat) (d d' : Int) (k k' : Nat → Knot) (w : World) (hn : n ≤ 9223372036854775807) (hm : m ≤ 9223372036854775807) (hA : KA w A n k) (hB : KA w B m k') :
    Calls Tryz.prog 26 #[.agg #[.slice A n c, .int .i64 d], .agg #[.slice B m c', .int .i64 d']] w fun e w' => e = .returned (.int .i64 (if ctErr k n d = 0 then ctErr k' m d' else ctErr k n d)) ∧ Below w.heap.size w w' := by
  have H1 := fun W hW => Lib.hid (trackErr_any A n c d k W hn hW)
  have H2 := fun W hW => Lib.hid (trackErr_any B m c' d' k' W hm hW)
  have HA := Lib.hid hA
  have HB := Lib.hid hB
  clear hA hB
  generalize ctErr k n d = E1 at *
  generalize ctErr k' m d' = E2 at *
  by_cases h0 : E1 = 0
  · subst h0
    go_enter Tryz.func26, Tryz.ntmps26
    go_wp2_with (first
      | (go_at_call 60; (with_reducible refine Calls.mono (H1 _ (HA.out.bel (by (repeat (first | with_reducible exact Below.refl _ _ | with_reducible assumption | with_reducible refine Below.alloc ?_ (by first | (simp; done) | (simp; omega) | omega) _ | with_reducible refine Below.setCell ?_ (by first | (simp; done) | (simp; omega) | omega) _ | with_reducible refine Below.drew ?_ | with_reducible refine below_drewN ?_ _))))).out ?_); rintro e w1 ⟨rfl, hb1⟩; have B1 := Lib.hid (thenB (show Below w.heap.size w _ by (repeat (first | with_reducible exact Below.refl _ _ | with_reducible assumption | with_reducible refine Below.alloc ?_ (by first | (simp; done) | (simp; omega) | omega) _ | with_reducible refine Below.setCell ?_ (by first | (simp; done) | (simp; omega) | omega) _ | with_reducible refine Below.drew ?_ | with_reducible refine below_drewN ?_ _))) hb1); have d0 := (hb1.cell (p := ⟨w.heap.size + 1, 0, none⟩) (by first | (simp; done) | (simp; omega) | omega)).trans (show _ = some (.slice B m c') by simp [go_sem]); have d1 := (hb1.cell (p := ⟨w.heap.size + 1, 1, none⟩) (by first | (simp; done) | (simp; omega) | omega)).trans (show _ = some (.int .i64 d') by simp [go_sem]); clear hb1)
      | (go_at_call 60; (with_reducible refine Calls.mono (H2 _ (HB.out.bel B1.out)).out ?_); rintro e w2 ⟨rfl, hb2⟩; have B2 := Lib.hid (thenB B1.out hb2); clear hb2))
    go_ret
    exact ⟨rfl, B2.out⟩
  · have g0 : (E1 == 0) = false := by simp [h0]
    have g1 : (E1 != 0) = true := by simp [h0]
    rw [if_neg h0]
    clear h0
    go_enter Tryz.func26, Tryz.ntmps26
    go_wp2_with (first
      | (go_at_call 60; (with_reducible refine Calls.mono (H1 _ (HA.out.bel (by (repeat (first | with_reducible exact Below.refl _ _ | with_reducible assumption | with_reducible refine Below.alloc ?_ (by first | (simp; done) | (simp; omega) | omega) _ | with_reducible refine Below.setCell ?_ (by first | (simp; done) | (simp; omega) | omega) _ | with_reducible refine Below.drew ?_ | with_reducible refine below_drewN ?_ _))))).out ?_); rintro e w1 ⟨rfl, hb1⟩; have B1 := Lib.hid (thenB (show Below w.heap.size w _ by (repeat (first | with_reducible exact Below.refl _ _ | with_reducible assumption | with_reducible refine Below.alloc ?_ (by first | (simp; done) | (simp; omega) | omega) _ | with_reducible refine Below.setCell ?_ (by first | (simp; done) | (simp; omega) | omega) _ | with_reducible refine Below.drew ?_ | with_reducible refine below_drewN ?_ _))) hb1); clear hb1))
    go_ret
    exact ⟨rfl, B1.out⟩
set_option maxRecDepth 100000 in
set_option maxHeartbeats 800000 in
theorem timesErr_any (b off b' off' n c m c' : Nat) (d d' time : Int) (k k' : Nat → Knot) (w : World) (hn : 0 < n) (hn2 : n ≤ 100) (hm : 0 < m) (hm2 : m ≤ 100) (hA : KAt w b off n k) (hB : KAt w b' off' m k') :
    Calls Tryz.prog 8 #[.agg #[.slice (some ⟨b, off, none⟩) n c, .int .i64 d], .agg #[.slice (some ⟨b', off', none⟩) m c', .int .i64 d'], .int .i64 time] w fun e w' => e = .returned (.int .i64 (if outside time k n || outside time k' m then 2 else 0)) ∧ Below w.heap.size w w' := by
  have H1 := fun W hW => Lib.hid (rtimeErr_any b off n c d time W k hn hn2 hW)
  have H2 := fun W hW => Lib.hid (rtimeErr_any b' off' m c' d' time W k' hm hm2 hW)
  have HV : (if outside time k n || outside time k' m then (2 : Int) else 0) = if (if outside time k n then (2 : Int) else 0) = 0 then (if outside time k' m then 2 else 0) else (if outside time k n then 2 else 0) := by
    cases outside time k n <;> cases outside time k' m <;> rfl
  have ha1 := hA.1
  have hb1' := hB.1
  have HA := Lib.hid hA
  have HB := Lib.hid hB
  rw [HV]
  clear hA hB HV
  generalize (if outside time k n then (2 : Int) else 0) = T1 at *
  generalize (if outside time k' m then (2 : Int) else 0) = T2 at *
  by_cases h0 : T1 = 0
  · subst h0
    rw [if_pos rfl]
    go_enter Tryz.func8, Tryz.ntmps8
    go_wp2_with (first
      | (go_at_call 28; (with_reducible refine Calls.mono (H1 _ (HA.out.below (show Below w.heap.size w _ by (repeat (first | with_reducible exact Below.refl _ _ | with_reducible assumption | with_reducible refine Below.alloc ?_ (by first | (simp; done) | (simp; omega) | omega) _ | with_reducible refine Below.setCell ?_ (by first | (simp; done) | (simp; omega) | omega) _ | with_reducible refine Below.drew ?_ | with_reducible refine below_drewN ?_ _))) ha1)).out ?_); rintro e w1 ⟨rfl, hb1⟩; have B1 := Lib.hid (thenB (show Below w.heap.size w _ by (repeat (first | with_reducible exact Below.refl _ _ | with_reducible assumption | with_reducible refine Below.alloc ?_ (by first | (simp; done) | (simp; omega) | omega) _ | with_reducible refine Below.setCell ?_ (by first | (simp; done) | (simp; omega) | omega) _ | with_reducible refine Below.drew ?_ | with_reducible refine below_drewN ?_ _))) hb1); have d0 := (hb1.cell (p := ⟨w.heap.size + 1, 0, none⟩) (by first | (simp; done) | (simp; omega) | omega)).trans (show _ = some (.slice (some ⟨b', off', none⟩) m c') by simp [go_sem]); have d1 := (hb1.cell (p := ⟨w.heap.size + 1, 1, none⟩) (by first | (simp; done) | (simp; omega) | omega)).trans (show _ = some (.int .i64 d') by simp [go_sem]); clear hb1)
      | (go_at_call 28; (with_reducible refine Calls.mono (H2 _ (HB.out.below B1.out hb1')).out ?_); rintro e w2 ⟨rfl, hb2⟩; have B2 := Lib.hid (thenB B1.out hb2); clear hb2))
    go_ret
    exact ⟨rfl, B2.out⟩
  · have g0 : (T1 == 0) = false := by simp [h0]
    have g1 : (T1 != 0) = true := by simp [h0]
    rw [if_neg h0]
    clear h0
    go_enter Tryz.func8, Tryz.ntmps8
    go_wp2_with (first
      | (go_at_call 28; (with_reducible refine Calls.mono (H1 _ (HA.out.below (show Below w.heap.size w _ by (repeat (first | with_reducible exact Below.refl _ _ | with_reducible assumption | with_reducible refine Below.alloc ?_ (by first | (simp; done) | (simp; omega) | omega) _ | with_reducible refine Below.setCell ?_ (by first | (simp; done) | (simp; omega) | omega) _ | with_reducible refine Below.drew ?_ | with_reducible refine below_drewN ?_ _))) ha1)).out ?_); rintro e w1 ⟨rfl, hb1⟩; have B1 := Lib.hid (thenB (show Below w.heap.size w _ by (repeat (first | with_reducible exact Below.refl _ _ | with_reducible assumption | with_reducible refine Below.alloc ?_ (by first | (simp; done) | (simp; omega) | omega) _ | with_reducible refine Below.setCell ?_ (by first | (simp; done) | (simp; omega) | omega) _ | with_reducible refine Below.drew ?_ | with_reducible refine below_drewN ?_ _))) hb1); clear hb1))
    go_ret
    exact ⟨rfl, B1.out⟩
/-- A distance as one pair of numbers. -/
theorem dist_fix (ka kb : Nat → Knot) (na nb : Nat) (da db time : Int) (hA : ctErr ka na da = 0) (hB : ctErr kb nb db = 0) (oA : outside time ka na = false) (oB : outside time kb nb = false) :
    ∃ r1 r2, RL (pN (nsum nr (vx (plc ka na time) (plc kb nb time)) (vy (plc ka na time) (plc kb nb time)) (vz (plc ka na time) (plc kb nb time)) (vd da db (plc ka na time) (plc kb nb time)) 3) (vn (plc ka na time) (plc kb nb time))) 0 6006000 r1 ∧
      RL (pF (nsum fr (vx (plc ka na time) (plc kb nb time)) (vy (plc ka na time) (plc kb nb time)) (vz (plc ka na time) (plc kb nb time)) (vd da db (plc ka na time) (plc kb nb time)) 3) (vn (plc ka na time) (plc kb nb time))) 0 6006000 r2 ∧
      ∀ W A c B c', KA W A na ka → KA W B nb kb → Calls Tryz.prog 21 #[.agg #[.slice A na c, .int .i64 da], .agg #[.slice B nb c', .int .i64 db], .int .i64 time] W fun e w' => e = .returned (.tuple #[.agg #[.int .i64 (r1 - 1), .int .i64 r2], .int .i64 0]) ∧ Below W.heap.size W w' := by
  have pA := plc_ok hA oA
  have pB := plc_ok hB oB
  obtain ⟨_, _, _, _⟩ := valid_of hA
  obtain ⟨_, _, _, _⟩ := valid_of hB
  have hv : 0 ≤ vn (plc ka na time) (plc kb nb time) := Int.mul_nonneg (by have := pA.1; omega) (by have := pB.1; omega)
  obtain ⟨r1, h1⟩ := RL_exists (pN (nsum nr (vx (plc ka na time) (plc kb nb time)) (vy (plc ka na time) (plc kb nb time)) (vz (plc ka na time) (plc kb nb time)) (vd da db (plc ka na time) (plc kb nb time)) 3) (vn (plc ka na time) (plc kb nb time))) 6006000
  obtain ⟨r2, h2⟩ := RL_exists (pF (nsum fr (vx (plc ka na time) (plc kb nb time)) (vy (plc ka na time) (plc kb nb time)) (vz (plc ka na time) (plc kb nb time)) (vd da db (plc ka na time) (plc kb nb time)) 3) (vn (plc ka na time) (plc kb nb time))) 6006000
  refine ⟨r1, r2, h1, h2, fun W A c B c' kA kB => ?_⟩
  refine (distanceAt_x A B na c nb c' ka kb da db time W ⟨kA, show na ≤ _ by omega⟩ ⟨kB, show nb ≤ _ by omega⟩).mono ?_
  rintro e w' ⟨hb, hh⟩
  have hd : distErr ⟨A, na, c, ka, da⟩ ⟨B, nb, c', kb, db⟩ time = 0 := by
    unfold distErr bothErr timesErr TV.err
    simp only
    rw [hA, hB, oA, oB]
    rfl
  rw [if_pos hd] at hh
  obtain ⟨A', B', s1, s2, ⟨e1, e2, e3⟩, ⟨e4, e5, e6⟩, rfl, q1, q2⟩ := hh
  have t1 : s1 = r1 := by
    refine RL_same (pN_mono hv) ?_ h1
    unfold sqN Trk.p at q1
    simp only [e1, e2, e3, e4, e5, e6] at q1
    exact q1
  have t2 : s2 = r2 := by
    refine RL_same (pF_mono hv) ?_ h2
    unfold sqF Trk.p at q2
    simp only [e1, e2, e3, e4, e5, e6] at q2
    exact q2
  subst t1 t2
  exact ⟨rfl, hb⟩
end Go.Proofs.YtjncjoaohonmjaaGreat
namespace Go.Proofs.YtjncjoaohonmjaaGreat
open Go.RowKit Go.Shelf Go.Sort
attribute [local go_sem] idx3_0 idx3_1 idx3_2 old1 fro1 old2 fro2 old3 fro3 old4 fro4 old5 fro5 old6 fro6 old7 fro7 old8 fro8 old9 fro9 old10 fro10 old11 fro11 old12 fro12
set_option maxRecDepth 100000 in
set_option maxHeartbeats 400000 in
theorem rviewErr_any (ux uy uz : Int) (C SA SB : Option Addr) (n c na ca nb cb : Nat) (k : Nat → Cone) (ka kb : Nat → Knot) (da db : Int) (w : World) (hn : n ≤ 9223372036854775807) (hna : na ≤ 9223372036854775807) (hnb : nb ≤ 9223372036854775807) (hk : KC w C n k) (hA : KA w SA na ka) (hB : KA w SB nb kb) :
    Calls Tryz.prog 6 #[.agg #[.int .i64 ux, .int .i64 uy, .int .i64 uz, .slice C n c, .slice SA na ca, .int .i64 da, .slice SB nb cb, .int .i64 db]] w fun e w' => e = .returned (.int .i64 (vwErr (siteRes ux uy uz n k).2 (⟨SA, na, ca, ka, da⟩ : TV) (⟨SB, nb, cb, kb, db⟩ : TV))) ∧ Below w.heap.size w w' := by
  have HS := Lib.hid (fun W (h : KC W C n k) => rcheckSite_any ux uy uz C n c k W hn h)
  have HB2 := Lib.hid (fun W (h1 : KA W SA na ka) (h2 : KA W SB nb kb) => bothErr_any SA SB na ca nb cb da db ka kb W hna hnb h1 h2)
  have HK := Lib.hid hk
  have HA := Lib.hid hA
  have HB := Lib.hid hB
  clear hk hA hB
  by_cases hs : (siteRes ux uy uz n k).2 = 0
  · have HV : Hid ((if ctErr ka na da = 0 then ctErr kb nb db else ctErr ka na da) = vwErr (siteRes ux uy uz n k).2 (⟨SA, na, ca, ka, da⟩ : TV) (⟨SB, nb, cb, kb, db⟩ : TV)) := by
      unfold vwErr
      rw [if_pos hs]
      rfl
    rw [hs] at HS
    clear hs
    generalize (if ctErr ka na da = 0 then ctErr kb nb db else ctErr ka na da) = E0 at HB2 HV
    go_enter Tryz.func6, Tryz.ntmps6
    go_wp2_with (first
      | (go_at_call 25; (with_reducible refine Calls.mono (HS.out _ (HK.out.bel (by (repeat (first | with_reducible exact Below.refl _ _ | with_reducible assumption | with_reducible refine Below.alloc ?_ (by first | (simp; done) | (simp; omega) | omega) _ | with_reducible refine Below.setCell ?_ (by first | (simp; done) | (simp; omega) | omega) _ | with_reducible refine Below.drew ?_ | with_reducible refine below_drewN ?_ _))))) ?_); rintro e w1 ⟨rfl, hb1⟩; have B1 := Lib.hid (belowT (show Below w.heap.size w _ by (repeat (first | with_reducible exact Below.refl _ _ | with_reducible assumption | with_reducible refine Below.alloc ?_ (by first | (simp; done) | (simp; omega) | omega) _ | with_reducible refine Below.setCell ?_ (by first | (simp; done) | (simp; omega) | omega) _ | with_reducible refine Below.drew ?_ | with_reducible refine below_drewN ?_ _))) hb1); have k4 := keep hb1 (b := w.heap.size) (o := 4) (v := .slice SA na ca) (by simp [go_sem]); have k5 := keep hb1 (b := w.heap.size) (o := 5) (v := .int .i64 da) (by simp [go_sem]); have k6 := keep hb1 (b := w.heap.size) (o := 6) (v := .slice SB nb cb) (by simp [go_sem]); have k7 := keep hb1 (b := w.heap.size) (o := 7) (v := .int .i64 db) (by simp [go_sem]); clear hb1)
      | (go_at_call 26; (with_reducible refine Calls.mono (HB2.out _ (HA.out.bel B1.out) (HB.out.bel B1.out)) ?_); rintro e w2 ⟨rfl, hb2⟩; have B2 := Lib.hid (belowT B1.out hb2); clear hb2))
    go_ret
    exact ⟨ret_int HV.out, B2.out⟩
  · have HV : Hid ((siteRes ux uy uz n k).2 = vwErr (siteRes ux uy uz n k).2 (⟨SA, na, ca, ka, da⟩ : TV) (⟨SB, nb, cb, kb, db⟩ : TV)) := by
      unfold vwErr
      rw [if_neg hs]
      exact Lib.hid rfl
    have hq : ((siteRes ux uy uz n k).2 != 0) = true := by simpa using hs
    clear hs
    go_enter Tryz.func6, Tryz.ntmps6
    go_wp2_with (go_at_call 25; (with_reducible refine Calls.mono (HS.out _ (HK.out.bel (by (repeat (first | with_reducible exact Below.refl _ _ | with_reducible assumption | with_reducible refine Below.alloc ?_ (by first | (simp; done) | (simp; omega) | omega) _ | with_reducible refine Below.setCell ?_ (by first | (simp; done) | (simp; omega) | omega) _ | with_reducible refine Below.drew ?_ | with_reducible refine below_drewN ?_ _))))) ?_); rintro e w1 ⟨rfl, hb1⟩; have B1 := Lib.hid (belowT (show Below w.heap.size w _ by (repeat (first | with_reducible exact Below.refl _ _ | with_reducible assumption | with_reducible refine Below.alloc ?_ (by first | (simp; done) | (simp; omega) | omega) _ | with_reducible refine Below.setCell ?_ (by first | (simp; done) | (simp; omega) | omega) _ | with_reducible refine Below.drew ?_ | with_reducible refine below_drewN ?_ _))) hb1); clear hb1)
    go_ret
    exact ⟨ret_int HV.out, B1.out⟩
end Go.Proofs.YtjncjoaohonmjaaGreat
