/- Helpers: the document's own check of a track is the program's. -/
import Derived.Test.YtmhcmiajikffpaaB18
import Derived.Test.YtmhcmiajikffpaaB09
import Derived.Test.YtmhcmiajikffpaaB15
import Derived.Test.YtmhcmiajikffpaaB17
import Derived.Test.YtmhcmiajikffpaaB16
namespace Go.Proofs.Ytmhcmiajikffpaa
open Go.RowKit Go.Shelf Go.Sort
attribute [local go_sem] idx3_0 idx3_1 idx3_2 old1 fro1 old2 fro2 old3 fro3 old4 fro4 old5 fro5 old6 fro6 old7 fro7 old8 fro8 old9 fro9 old10 fro10 old11 fro11 old12 fro12
set_option maxRecDepth 100000 in
set_option maxHeartbeats 400000 in
theorem rcheckTrack_0 (A : Option Addr) (c : Nat) (d : Int) (w : World) :
    Calls Try.prog 35 #[.agg #[.slice A 0 c, .int .i64 d]] w fun e w' => e = .returned (.tuple #[.int .i64 0, .int .i64 10]) ∧ Below w.heap.size w w' := by
  go_enter Try.func35, Try.ntmps35
  go_wp2
  go_ret2
  exact ⟨rfl, by (repeat (first | with_reducible exact Below.refl _ _ | with_reducible assumption | with_reducible refine Below.alloc ?_ (by first | (simp; done) | (simp; omega) | omega) _ | with_reducible refine Below.setCell ?_ (by first | (simp; done) | (simp; omega) | omega) _ | with_reducible refine Below.drew ?_ | with_reducible refine below_drewN ?_ _))⟩
set_option maxRecDepth 100000 in
set_option maxHeartbeats 400000 in
theorem rcheckTrack_l (A : Option Addr) (n c : Nat) (d : Int) (w : World) (h : 12 < n) (hn : n ≤ 9223372036854775807) :
    Calls Try.prog 35 #[.agg #[.slice A n c, .int .i64 d]] w fun e w' => e = .returned (.tuple #[.int .i64 0, .int .i64 8]) ∧ Below w.heap.size w w' := by
  have hz : ((n : Int) == 0) = false := by simp; omega
  go_enter Try.func35, Try.ntmps35
  go_wp2
  go_ret2
  exact ⟨rfl, by (repeat (first | with_reducible exact Below.refl _ _ | with_reducible assumption | with_reducible refine Below.alloc ?_ (by first | (simp; done) | (simp; omega) | omega) _ | with_reducible refine Below.setCell ?_ (by first | (simp; done) | (simp; omega) | omega) _ | with_reducible refine Below.drew ?_ | with_reducible refine below_drewN ?_ _))⟩
set_option maxRecDepth 100000 in
set_option maxHeartbeats 800000 in
theorem rcheckTrack_m (b off n c : Nat) (d : Int) (w : World) (k : Nat → Knot) (h0 : 0 < n) (h : n ≤ 12) (hk : KAt w b off n k) :
    Calls Try.prog 35 #[.agg #[.slice (some ⟨b, off, none⟩) n c, .int .i64 d]] w fun e w' => e = .returned (.tuple #[.int .i64 (ctRes k n d).1, .int .i64 (ctRes k n d).2]) ∧ Below w.heap.size w w' := by
  have hz : ((n : Int) == 0) = false := by simp; omega
  have HK := Lib.hid hk
  have hb := hk.1
  clear hk
  go_enter Try.func35, Try.ntmps35
  go_wp2_with fail
  go_loopw [4] (fun i wr => ∃ j : Nat, j ≤ n ∧ i = .int .i64 j ∧ Below w.heap.size w wr ∧ w.heap.size < wr.heap.size ∧ wr.cell? ⟨w.heap.size, 0, none⟩ = some (.slice (some ⟨b, off, none⟩) n c) ∧ wr.cell? ⟨w.heap.size, 1, none⟩ = some (.int .i64 d) ∧
    Hid (∀ q, q < j → knotErr k q = 0) ∧ Hid (ctFrom k 0 n = ctFrom k j (n - j))) (fun i _ => n - (intOf i).toNat)
  case atStart => exact ⟨0, Nat.zero_le _, rfl, by (repeat (first | with_reducible exact Below.refl _ _ | with_reducible assumption | with_reducible refine Below.alloc ?_ (by first | (simp; done) | (simp; omega) | omega) _ | with_reducible refine Below.setCell ?_ (by first | (simp; done) | (simp; omega) | omega) _ | with_reducible refine Below.drew ?_ | with_reducible refine below_drewN ?_ _)), by simp, by simp [go_sem], by simp [go_sem], fun q hq => absurd hq (Nat.not_lt_zero _), rfl⟩
  case round =>
    obtain ⟨j, hj, rfl, hbel, hsz, p0, p1, H, H2⟩ := hrel
    have HS : j < n → Hid (ctFrom k j (n - j) = if knotErr k j = 0 then ctFrom k (j + 1) (n - (j + 1)) else some (j, knotErr k j)) := by
      intro hlt
      rw [show n - j = (n - (j + 1)) + 1 from by omega]; rfl
    by_cases hlt : j < n
    · have HS := HS hlt
      have hcon := rknot_any b off n c j wr k hlt (by omega) (HK.out.below hbel hb) (fun h0 => knotErr_ok (H.out (j - 1) (by omega)))
      have hws := hbel.size
      have HB := Lib.hid hbel
      clear hbel
      by_cases hz0 : knotErr k j = 0
      · rw [hz0] at hcon
        have HZ := Lib.hid hz0
        have HC := Lib.hid hcon
        clear hz0 hcon
        go_wp2_with (go_at_call 63; refine HC.out.mono ?_; rintro e w1 ⟨rfl, hb1⟩)
        go_roundw
        case rel => exact ⟨j + 1, by omega, by go_num, HB.out.trans (hb1.mono hws), Nat.lt_of_lt_of_le hsz hb1.size, (hb1.cell (p := ⟨w.heap.size, 0, none⟩) hsz).trans p0, (hb1.cell (p := ⟨w.heap.size, 1, none⟩) hsz).trans p1, fun q hq => (by
          rcases Nat.lt_or_eq_of_le (Nat.le_of_lt_succ hq) with h | h
          · exact H.out q h
          · rw [h]; exact HZ.out), (by show ctFrom k 0 n = _; rw [H2.out, HS.out, if_pos HZ.out])⟩
        case measure => simp [intOf]; omega
      · have HZ := Lib.hid hz0
        have hq : (knotErr k j != 0) = true := by simpa using hz0
        have HC := Lib.hid hcon
        clear hz0 hcon
        have hv : ctRes k n d = ((j : Int), knotErr k j) := by
          unfold ctRes
          rw [if_neg (by omega), if_neg (by omega), H2.out, HS.out, if_neg HZ.out]
        have HV := Lib.hid hv
        clear hv
        generalize knotErr k j = ek at hq HC HV
        go_wp2_with (go_at_call 63; refine HC.out.mono ?_; rintro e w1 ⟨rfl, hb1⟩)
        go_ret2
        exact ⟨by rw [HV.out]; rfl, HB.out.trans (hb1.mono hws)⟩
    · obtain rfl : j = n := by omega
      clear HS
      have HB := Lib.hid hbel
      clear hbel
      have hv : ctRes k j d = if wi d 0 1000 then (0, 0) else (0, 2) := by
        unfold ctRes
        rw [if_neg (by omega), if_neg (by omega), H2.out, Nat.sub_self]; rfl
      have HV := Lib.hid hv
      clear hv
      cases hd : wi d 0 1000
      all_goals
        rw [hd] at HV
        go_wp2_with (go_at_call 13; refine (bwithin_any _ _ _ _).mono ?_; rintro e w' ⟨rfl, rfl⟩)
        go_ret2
        exact ⟨by rw [HV.out]; rfl, HB.out⟩
theorem rcheckTrack_any (A : Option Addr) (n c : Nat) (d : Int) (w : World) (k : Nat → Knot) (hn : n ≤ 9223372036854775807) (hk : KA w A n k) :
    Calls Try.prog 35 #[.agg #[.slice A n c, .int .i64 d]] w fun e w' => e = .returned (.tuple #[.int .i64 (ctRes k n d).1, .int .i64 (ctRes k n d).2]) ∧ Below w.heap.size w w' := by
  by_cases h0 : n = 0
  · subst h0
    exact rcheckTrack_0 A c d w
  · by_cases h12 : 12 < n
    · have e : ctRes k n d = (0, 8) := by unfold ctRes; rw [if_neg h0, if_pos h12]
      rw [e]
      exact rcheckTrack_l A n c d w h12 hn
    · obtain ⟨b, off, rfl, hk2⟩ := hk (by omega)
      exact rcheckTrack_m b off n c d w k (by omega) (by omega) hk2
set_option maxRecDepth 100000 in
set_option maxHeartbeats 400000 in
theorem rfirst_any (b off n c : Nat) (d t : Int) (w : World) (hn : 0 < n) (_ : n ≤ 100) (h : w.cell? ⟨b, off, none⟩ = some (.int .i64 t)) :
    Calls Try.prog 36 #[.agg #[.slice (some ⟨b, off, none⟩) n c, .int .i64 d]] w fun e w' => e = .returned (.int .i64 t) ∧ ∃ o1, w' = w.alloc o1 := by
  go_enter Try.func36, Try.ntmps36
  go_wp2
  go_ret
  exact ⟨rfl, _, rfl⟩
set_option maxRecDepth 100000 in
set_option maxHeartbeats 400000 in
theorem rlast_any (b off n c : Nat) (d t : Int) (w : World) (hn : 0 < n) (hn2 : n ≤ 100) (h : w.cell? ⟨b, off + (n - 1) * 4, none⟩ = some (.int .i64 t)) :
    Calls Try.prog 37 #[.agg #[.slice (some ⟨b, off, none⟩) n c, .int .i64 d]] w fun e w' => e = .returned (.int .i64 t) ∧ ∃ o1, w' = w.alloc o1 := by
  go_enter Try.func37, Try.ntmps37
  go_wp2
  go_ret
  exact ⟨rfl, _, rfl⟩
set_option maxRecDepth 100000 in
set_option maxHeartbeats 800000 in
theorem rtimeErr_any (b off n c : Nat) (d time : Int) (w : World) (k : Nat → Knot) (hn : 0 < n) (hn2 : n ≤ 100) (hk : KAt w b off n k) :
    Calls Try.prog 12 #[.agg #[.slice (some ⟨b, off, none⟩) n c, .int .i64 d], .int .i64 time] w fun e w' => e = .returned (.int .i64 (if outside time k n then 2 else 0)) ∧ Below w.heap.size w w' := by
  obtain ⟨hb, hkk⟩ := hk
  have c1 := (hkk 0 hn).1
  have c2 := (hkk (n - 1) (by omega)).1
  rw [show off + 0 * 4 = off by omega] at c1
  clear hkk
  unfold outside
  generalize (k 0).t = t0 at c1 ⊢
  generalize (k (n - 1)).t = t1 at c2 ⊢
  cases hw : wi time t0 t1
  all_goals
    go_enter Try.func12, Try.ntmps12
    go_wp2_with fail
    go_region_held3 (fun w' => w'.cell? ⟨w.heap.size, 0, none⟩ = some (.slice (some ⟨b, off, none⟩) n c) ∧ w'.cell? ⟨w.heap.size, 1, none⟩ = some (.int .i64 d)) (simp [go_sem, *])
      (first | (go_at_call 36; refine (rfirst_any b off n c d t0 _ hn hn2 (by simp [go_sem, *])).mono ?_; rintro e w2 ⟨rfl, o3, rfl⟩) | (go_at_call 37; refine (rlast_any b off n c d t1 _ hn hn2 (by simp [go_sem, *])).mono ?_; rintro e w2 ⟨rfl, o3, rfl⟩) | (go_at_call 13; (with_reducible refine (bwithin_any _ _ _ _).mono ?_); rintro e w' ⟨rfl, rfl⟩))
    all_goals
      go_wp2
      go_ret
      exact ⟨rfl, by (repeat (first | with_reducible exact Below.refl _ _ | with_reducible assumption | with_reducible refine Below.alloc ?_ (by first | (simp; done) | (simp; omega) | omega) _ | with_reducible refine Below.setCell ?_ (by first | (simp; done) | (simp; omega) | omega) _ | with_reducible refine Below.drew ?_ | with_reducible refine below_drewN ?_ _))⟩
end Go.Proofs.Ytmhcmiajikffpaa
namespace Go.Proofs.Ytmhcmiajikffpaa
open Go.RowKit Go.Shelf Go.Sort
attribute [local go_sem] idx3_0 idx3_1 idx3_2 old1 fro1 old2 fro2 old3 fro3 old4 fro4 old5 fro5 old6 fro6 old7 fro7 old8 fro8 old9 fro9 old10 fro10 old11 fro11 old12 fro12
set_option maxRecDepth 100000 in
set_option maxHeartbeats 800000 in
theorem trackErr_any (A : Option Addr) (n c : Nat) (d : Int) (k : Nat → Knot) (w : World) (hn : n ≤ 9223372036854775807) (hk : KA w A n k) :
    Calls Try.prog 10 #[.agg #[.slice A n c, .int .i64 d]] w fun e w' => e = .returned (.int .i64 (ctErr k n d)) ∧ Below w.heap.size w w' := by
  have HC := fun W hW => Lib.hid (rcheckTrack_any A n c d W k hn hW)
  have HA := Lib.hid hk
  have HE : Hid (ctErr k n d = (ctRes k n d).2) := rfl
  clear hk
  generalize (ctRes k n d).2 = e2 at HC HE
  generalize (ctRes k n d).1 = e1 at HC
  go_enter Try.func10, Try.ntmps10
  go_wp2_with (go_at_call 35; (with_reducible refine Calls.mono (HC _ (HA.out.bel (by (repeat (first | with_reducible exact Below.refl _ _ | with_reducible assumption | with_reducible refine Below.alloc ?_ (by first | (simp; done) | (simp; omega) | omega) _ | with_reducible refine Below.setCell ?_ (by first | (simp; done) | (simp; omega) | omega) _ | with_reducible refine Below.drew ?_ | with_reducible refine below_drewN ?_ _))))).out ?_); rintro e w1 ⟨rfl, hb1⟩; have B1 := Lib.hid (thenB (show Below w.heap.size w _ by (repeat (first | with_reducible exact Below.refl _ _ | with_reducible assumption | with_reducible refine Below.alloc ?_ (by first | (simp; done) | (simp; omega) | omega) _ | with_reducible refine Below.setCell ?_ (by first | (simp; done) | (simp; omega) | omega) _ | with_reducible refine Below.drew ?_ | with_reducible refine below_drewN ?_ _))) hb1); clear hb1)
  go_ret
  exact ⟨ret_int HE.out.symm, B1.out⟩
set_option maxRecDepth 100000 in
set_option maxHeartbeats 800000 in
theorem bothErr_any (A B : Option Addr) (n c m c' : Nat) (d d' : Int) (k k' : Nat → Knot) (w : World) (hn : n ≤ 9223372036854775807) (hm : m ≤ 9223372036854775807) (hA : KA w A n k) (hB : KA w B m k') :
    Calls Try.prog 9 #[.agg #[.slice A n c, .int .i64 d], .agg #[.slice B m c', .int .i64 d']] w fun e w' => e = .returned (.int .i64 (if ctErr k n d = 0 then ctErr k' m d' else ctErr k n d)) ∧ Below w.heap.size w w' := by
  have H1 := fun W hW => Lib.hid (trackErr_any A n c d k W hn hW)
  have H2 := fun W hW => Lib.hid (trackErr_any B m c' d' k' W hm hW)
  have HA := Lib.hid hA
  have HB := Lib.hid hB
  clear hA hB
  generalize ctErr k n d = E1 at *
  generalize ctErr k' m d' = E2 at *
  by_cases h0 : E1 = 0
  · subst h0
    go_enter Try.func9, Try.ntmps9
    go_wp2_with (first
      | (go_at_call 10; (with_reducible refine Calls.mono (H1 _ (HA.out.bel (by (repeat (first | with_reducible exact Below.refl _ _ | with_reducible assumption | with_reducible refine Below.alloc ?_ (by first | (simp; done) | (simp; omega) | omega) _ | with_reducible refine Below.setCell ?_ (by first | (simp; done) | (simp; omega) | omega) _ | with_reducible refine Below.drew ?_ | with_reducible refine below_drewN ?_ _))))).out ?_); rintro e w1 ⟨rfl, hb1⟩; have B1 := Lib.hid (thenB (show Below w.heap.size w _ by (repeat (first | with_reducible exact Below.refl _ _ | with_reducible assumption | with_reducible refine Below.alloc ?_ (by first | (simp; done) | (simp; omega) | omega) _ | with_reducible refine Below.setCell ?_ (by first | (simp; done) | (simp; omega) | omega) _ | with_reducible refine Below.drew ?_ | with_reducible refine below_drewN ?_ _))) hb1); have d0 := (hb1.cell (p := ⟨w.heap.size + 1, 0, none⟩) (by first | (simp; done) | (simp; omega) | omega)).trans (show _ = some (.slice B m c') by simp [go_sem]); have d1 := (hb1.cell (p := ⟨w.heap.size + 1, 1, none⟩) (by first | (simp; done) | (simp; omega) | omega)).trans (show _ = some (.int .i64 d') by simp [go_sem]); clear hb1)
      | (go_at_call 10; (with_reducible refine Calls.mono (H2 _ (HB.out.bel B1.out)).out ?_); rintro e w2 ⟨rfl, hb2⟩; have B2 := Lib.hid (thenB B1.out hb2); clear hb2))
    go_ret
    exact ⟨rfl, B2.out⟩
  · have g0 : (E1 == 0) = false := by simp [h0]
    have g1 : (E1 != 0) = true := by simp [h0]
    rw [if_neg h0]
    clear h0
    go_enter Try.func9, Try.ntmps9
    go_wp2_with (first
      | (go_at_call 10; (with_reducible refine Calls.mono (H1 _ (HA.out.bel (by (repeat (first | with_reducible exact Below.refl _ _ | with_reducible assumption | with_reducible refine Below.alloc ?_ (by first | (simp; done) | (simp; omega) | omega) _ | with_reducible refine Below.setCell ?_ (by first | (simp; done) | (simp; omega) | omega) _ | with_reducible refine Below.drew ?_ | with_reducible refine below_drewN ?_ _))))).out ?_); rintro e w1 ⟨rfl, hb1⟩; have B1 := Lib.hid (thenB (show Below w.heap.size w _ by (repeat (first | with_reducible exact Below.refl _ _ | with_reducible assumption | with_reducible refine Below.alloc ?_ (by first | (simp; done) | (simp; omega) | omega) _ | with_reducible refine Below.setCell ?_ (by first | (simp; done) | (simp; omega) | omega) _ | with_reducible refine Below.drew ?_ | with_reducible refine below_drewN ?_ _))) hb1); clear hb1))
    go_ret
    exact ⟨rfl, B1.out⟩
set_option maxRecDepth 100000 in
set_option maxHeartbeats 800000 in
theorem timesErr_any (b off b' off' n c m c' : Nat) (d d' time : Int) (k k' : Nat → Knot) (w : World) (hn : 0 < n) (hn2 : n ≤ 100) (hm : 0 < m) (hm2 : m ≤ 100) (hA : KAt w b off n k) (hB : KAt w b' off' m k') :
    Calls Try.prog 11 #[.agg #[.slice (some ⟨b, off, none⟩) n c, .int .i64 d], .agg #[.slice (some ⟨b', off', none⟩) m c', .int .i64 d'], .int .i64 time] w fun e w' => e = .returned (.int .i64 (if outside time k n || outside time k' m then 2 else 0)) ∧ Below w.heap.size w w' := by
  have H1 := fun W hW => Lib.hid (rtimeErr_any b off n c d time W k hn hn2 hW)
  have H2 := fun W hW => Lib.hid (rtimeErr_any b' off' m c' d' time W k' hm hm2 hW)
  have HV : (if outside time k n || outside time k' m then (2 : Int) else 0) = if (if outside time k n then (2 : Int) else 0) = 0 then (if outside time k' m then 2 else 0) else (if outside time k n then 2 else 0) := by
    cases outside time k n <;> cases outside time k' m <;> rfl
  have ha1 := hA.1
  have hb1' := hB.1
  have HA := Lib.hid hA
  have HB := Lib.hid hB
  rw [HV]
  clear hA hB HV
  generalize (if outside time k n then (2 : Int) else 0) = T1 at *
  generalize (if outside time k' m then (2 : Int) else 0) = T2 at *
  by_cases h0 : T1 = 0
  · subst h0
    rw [if_pos rfl]
    go_enter Try.func11, Try.ntmps11
    go_wp2_with (first
      | (go_at_call 12; (with_reducible refine Calls.mono (H1 _ (HA.out.below (show Below w.heap.size w _ by (repeat (first | with_reducible exact Below.refl _ _ | with_reducible assumption | with_reducible refine Below.alloc ?_ (by first | (simp; done) | (simp; omega) | omega) _ | with_reducible refine Below.setCell ?_ (by first | (simp; done) | (simp; omega) | omega) _ | with_reducible refine Below.drew ?_ | with_reducible refine below_drewN ?_ _))) ha1)).out ?_); rintro e w1 ⟨rfl, hb1⟩; have B1 := Lib.hid (thenB (show Below w.heap.size w _ by (repeat (first | with_reducible exact Below.refl _ _ | with_reducible assumption | with_reducible refine Below.alloc ?_ (by first | (simp; done) | (simp; omega) | omega) _ | with_reducible refine Below.setCell ?_ (by first | (simp; done) | (simp; omega) | omega) _ | with_reducible refine Below.drew ?_ | with_reducible refine below_drewN ?_ _))) hb1); have d0 := (hb1.cell (p := ⟨w.heap.size + 1, 0, none⟩) (by first | (simp; done) | (simp; omega) | omega)).trans (show _ = some (.slice (some ⟨b', off', none⟩) m c') by simp [go_sem]); have d1 := (hb1.cell (p := ⟨w.heap.size + 1, 1, none⟩) (by first | (simp; done) | (simp; omega) | omega)).trans (show _ = some (.int .i64 d') by simp [go_sem]); clear hb1)
      | (go_at_call 12; (with_reducible refine Calls.mono (H2 _ (HB.out.below B1.out hb1')).out ?_); rintro e w2 ⟨rfl, hb2⟩; have B2 := Lib.hid (thenB B1.out hb2); clear hb2))
    go_ret
    exact ⟨rfl, B2.out⟩
  · have g0 : (T1 == 0) = false := by simp [h0]
    have g1 : (T1 != 0) = true := by simp [h0]
    rw [if_neg h0]
    clear h0
    go_enter Try.func11, Try.ntmps11
    go_wp2_with (first
      | (go_at_call 12; (with_reducible refine Calls.mono (H1 _ (HA.out.below (show Below w.heap.size w _ by (repeat (first | with_reducible exact Below.refl _ _ | with_reducible assumption | with_reducible refine Below.alloc ?_ (by first | (simp; done) | (simp; omega) | omega) _ | with_reducible refine Below.setCell ?_ (by first | (simp; done) | (simp; omega) | omega) _ | with_reducible refine Below.drew ?_ | with_reducible refine below_drewN ?_ _))) ha1)).out ?_); rintro e w1 ⟨rfl, hb1⟩; have B1 := Lib.hid (thenB (show Below w.heap.size w _ by (repeat (first | with_reducible exact Below.refl _ _ | with_reducible assumption | with_reducible refine Below.alloc ?_ (by first | (simp; done) | (simp; omega) | omega) _ | with_reducible refine Below.setCell ?_ (by first | (simp; done) | (simp; omega) | omega) _ | with_reducible refine Below.drew ?_ | with_reducible refine below_drewN ?_ _))) hb1); clear hb1))
    go_ret
    exact ⟨rfl, B1.out⟩
set_option maxRecDepth 100000 in
set_option maxHeartbeats 800000 in
theorem few2_any (A B : Option Addr) (n c m c' : Nat) (d d' : Int) (w : World) (hn : n ≤ 9223372036854775807) (hm : m ≤ 9223372036854775807) :
    Calls Try.prog 7 #[.agg #[.slice A n c, .int .i64 d], .agg #[.slice B m c', .int .i64 d']] w fun e w' => e = .returned (.bool (decide ((n : Int) ≤ 14) && decide ((m : Int) ≤ 14))) ∧ Below w.heap.size w w' := by
  have H1 := fun W => Lib.hid (few_any A n c d W hn)
  have H2 := fun W => Lib.hid (few_any B m c' d' W hm)
  generalize decide ((n : Int) ≤ 14) = q1 at *
  generalize decide ((m : Int) ≤ 14) = q2 at *
  cases q1
  · go_enter Try.func7, Try.ntmps7
    go_wp2_with (first
      | (go_at_call 8; (with_reducible refine Calls.mono (H1 _).out ?_); rintro e w1 ⟨rfl, hb1⟩; have B1 := Lib.hid (thenB (show Below w.heap.size w _ by (repeat (first | with_reducible exact Below.refl _ _ | with_reducible assumption | with_reducible refine Below.alloc ?_ (by first | (simp; done) | (simp; omega) | omega) _ | with_reducible refine Below.setCell ?_ (by first | (simp; done) | (simp; omega) | omega) _ | with_reducible refine Below.drew ?_ | with_reducible refine below_drewN ?_ _))) hb1); clear hb1))
    go_ret
    exact ⟨rfl, B1.out⟩
  · go_enter Try.func7, Try.ntmps7
    go_wp2_with (first
      | (go_at_call 8; (with_reducible refine Calls.mono (H1 _).out ?_); rintro e w1 ⟨rfl, hb1⟩; have B1 := Lib.hid (thenB (show Below w.heap.size w _ by (repeat (first | with_reducible exact Below.refl _ _ | with_reducible assumption | with_reducible refine Below.alloc ?_ (by first | (simp; done) | (simp; omega) | omega) _ | with_reducible refine Below.setCell ?_ (by first | (simp; done) | (simp; omega) | omega) _ | with_reducible refine Below.drew ?_ | with_reducible refine below_drewN ?_ _))) hb1); have d0 := (hb1.cell (p := ⟨w.heap.size + 1, 0, none⟩) (by first | (simp; done) | (simp; omega) | omega)).trans (show _ = some (.slice B m c') by simp [go_sem]); have d1 := (hb1.cell (p := ⟨w.heap.size + 1, 1, none⟩) (by first | (simp; done) | (simp; omega) | omega)).trans (show _ = some (.int .i64 d') by simp [go_sem]); clear hb1)
      | (go_at_call 8; (with_reducible refine Calls.mono (H2 _).out ?_); rintro e w2 ⟨rfl, hb2⟩; have B2 := Lib.hid (thenB B1.out hb2); clear hb2))
    go_ret
    exact ⟨ret_bool (by simp), B2.out⟩
/-- A distance as one pair of numbers. -/
theorem dist_fix (ka kb : Nat → Knot) (na nb : Nat) (da db time : Int) (hA : ctErr ka na da = 0) (hB : ctErr kb nb db = 0) (oA : outside time ka na = false) (oB : outside time kb nb = false) :
    ∃ r1 r2, RL (pN (nsum nr (vx (plc ka na time) (plc kb nb time)) (vy (plc ka na time) (plc kb nb time)) (vz (plc ka na time) (plc kb nb time)) (vd da db (plc ka na time) (plc kb nb time)) 3) (vn (plc ka na time) (plc kb nb time))) 0 6006000 r1 ∧
      RL (pF (nsum fr (vx (plc ka na time) (plc kb nb time)) (vy (plc ka na time) (plc kb nb time)) (vz (plc ka na time) (plc kb nb time)) (vd da db (plc ka na time) (plc kb nb time)) 3) (vn (plc ka na time) (plc kb nb time))) 0 6006000 r2 ∧
      ∀ W A c B c', KA W A na ka → KA W B nb kb → Calls Try.prog 15 #[.agg #[.slice A na c, .int .i64 da], .agg #[.slice B nb c', .int .i64 db], .int .i64 time] W fun e w' => e = .returned (.tuple #[.agg #[.int .i64 (r1 - 1), .int .i64 r2], .int .i64 0]) ∧ Below W.heap.size W w' := by
  have pA := plc_ok hA oA
  have pB := plc_ok hB oB
  obtain ⟨_, _, _, _⟩ := valid_of hA
  obtain ⟨_, _, _, _⟩ := valid_of hB
  have hv : 0 ≤ vn (plc ka na time) (plc kb nb time) := Int.mul_nonneg (by have := pA.1; omega) (by have := pB.1; omega)
  obtain ⟨r1, h1⟩ := RL_exists (pN (nsum nr (vx (plc ka na time) (plc kb nb time)) (vy (plc ka na time) (plc kb nb time)) (vz (plc ka na time) (plc kb nb time)) (vd da db (plc ka na time) (plc kb nb time)) 3) (vn (plc ka na time) (plc kb nb time))) 6006000
  obtain ⟨r2, h2⟩ := RL_exists (pF (nsum fr (vx (plc ka na time) (plc kb nb time)) (vy (plc ka na time) (plc kb nb time)) (vz (plc ka na time) (plc kb nb time)) (vd da db (plc ka na time) (plc kb nb time)) 3) (vn (plc ka na time) (plc kb nb time))) 6006000
  refine ⟨r1, r2, h1, h2, fun W A c B c' kA kB => ?_⟩
  refine (distanceAt_x A B na c nb c' ka kb da db time W ⟨kA, show na ≤ _ by omega⟩ ⟨kB, show nb ≤ _ by omega⟩).mono ?_
  rintro e w' ⟨hb, hh⟩
  have hd : distErr ⟨A, na, c, ka, da⟩ ⟨B, nb, c', kb, db⟩ time = 0 := by
    unfold distErr bothErr timesErr TV.err
    simp only
    rw [hA, hB, oA, oB]
    rfl
  rw [if_pos hd] at hh
  obtain ⟨A', B', s1, s2, ⟨e1, e2, e3⟩, ⟨e4, e5, e6⟩, rfl, q1, q2⟩ := hh
  have t1 : s1 = r1 := by
    refine RL_same (pN_mono hv) ?_ h1
    unfold sqN Trk.p at q1
    simp only [e1, e2, e3, e4, e5, e6] at q1
    exact q1
  have t2 : s2 = r2 := by
    refine RL_same (pF_mono hv) ?_ h2
    unfold sqF Trk.p at q2
    simp only [e1, e2, e3, e4, e5, e6] at q2
    exact q2
  subst t1 t2
  exact ⟨rfl, hb⟩
end Go.Proofs.Ytmhcmiajikffpaa
namespace Go.Proofs.Ytmhcmiajikffpaa
open Go.RowKit Go.Shelf Go.Sort
attribute [local go_sem] idx3_0 idx3_1 idx3_2 old1 fro1 old2 fro2 old3 fro3 old4 fro4 old5 fro5 old6 fro6 old7 fro7 old8 fro8 old9 fro9 old10 fro10 old11 fro11 old12 fro12
theorem lin_rel {a b u v : Int} (ha : -1000000 ≤ a ∧ a ≤ 1000000) (hb : -1000000 ≤ b ∧ b ≤ 1000000) (hu : 0 ≤ u) (hv : 0 ≤ v) : -(1000000 * (u + v)) ≤ a * u + b * v ∧ a * u + b * v ≤ 1000000 * (u + v) := by
  have h1 := Int.mul_le_mul_of_nonneg_right ha.1 hu
  have h2 := Int.mul_le_mul_of_nonneg_right ha.2 hu
  have h3 := Int.mul_le_mul_of_nonneg_right hb.1 hv
  have h4 := Int.mul_le_mul_of_nonneg_right hb.2 hv
  omega
def Rel (p : Plc) : Prop := (-(1000000 * p.n) ≤ p.x ∧ p.x ≤ 1000000 * p.n) ∧ (-(1000000 * p.n) ≤ p.y ∧ p.y ≤ 1000000 * p.n) ∧ (-(1000000 * p.n) ≤ p.z ∧ p.z ≤ 1000000 * p.n)
theorem plc_rel {k : Nat → Knot} {n : Nat} {d time : Int} (hv : ctErr k n d = 0) (h : outside time k n = false) : Rel (plc k n time) := by
  obtain ⟨hn, hn2, hk, hd⟩ := valid_of hv
  obtain ⟨m1, m2, m3, m4⟩ := mIdx_spec hn h
  unfold plc
  generalize mIdx k n time = m at *
  obtain ⟨ot, ox, oy, oz⟩ := knotErr_ok (hk m m1)
  simp only
  by_cases e : (k m).t = time
  · rw [if_pos e]
    exact ⟨by simp only; omega, by simp only; omega, by simp only; omega⟩
  · rw [if_neg e]
    have hm : 0 < m := by
      rcases Nat.eq_zero_or_pos m with z | z
      · subst z; omega
      · exact z
    have hp := m3 (m - 1) (by omega)
    obtain ⟨_, px, py, pz⟩ := knotErr_ok (hk (m - 1) (by omega))
    have hn' : (k m).t - (k (m - 1)).t = ((k m).t - time) + (time - (k (m - 1)).t) := by omega
    unfold Rel
    simp only
    rw [hn']
    exact ⟨lin_rel ⟨by omega, by omega⟩ ⟨by omega, by omega⟩ (by omega) (by omega), lin_rel ⟨by omega, by omega⟩ ⟨by omega, by omega⟩ (by omega) (by omega), lin_rel ⟨by omega, by omega⟩ ⟨by omega, by omega⟩ (by omega) (by omega)⟩
theorem v_rel {a b m n : Int} (ha : -(1000000 * m) ≤ a ∧ a ≤ 1000000 * m) (hb : -(1000000 * n) ≤ b ∧ b ≤ 1000000 * n) (hm : 0 ≤ m) (hn : 0 ≤ n) : -(2000000 * (m * n)) ≤ b * m - a * n ∧ b * m - a * n ≤ 2000000 * (m * n) := by
  have h1 := Int.mul_le_mul_of_nonneg_right ha.1 hn
  have h2 := Int.mul_le_mul_of_nonneg_right ha.2 hn
  have h3 := Int.mul_le_mul_of_nonneg_right hb.1 hm
  have h4 := Int.mul_le_mul_of_nonneg_right hb.2 hm
  rw [Int.neg_mul, Int.mul_assoc] at h1 h3
  rw [Int.mul_assoc] at h2 h4
  rw [Int.mul_comm n m] at h3 h4
  omega
theorem sq_up {x V : Int} (h0 : 0 ≤ x) (h1 : x ≤ 2002000 * V) : x * x ≤ 2002000 * V * (2002000 * V) := Int.mul_le_mul h1 h1 h0 (by omega)
theorem fr_up {x d V : Int} (hx : -(2000000 * V) ≤ x ∧ x ≤ 2000000 * V) (hd : 0 ≤ d ∧ d ≤ 2000 * V) : 0 ≤ fr x d ∧ fr x d ≤ 2002000 * V := by
  have h := siz_le hx.1 hx.2
  have h0 := siz_nn x
  unfold fr
  omega
/-- No distance is as great as 6006000. -/
theorem sqF_lt {A B : Trk} {s r : Int} (hA : TIn A s) (hB : TIn B r) : 1 ≤ vn (A.p s) (B.p r) ∧ 0 ≤ sqN A B s r ∧ sqN A B s r ≤ sqF A B s r ∧ sqF A B s r < 6006000 * vn (A.p s) (B.p r) * (6006000 * vn (A.p s) (B.p r)) := by
  have ra := plc_rel hA.1 hA.2
  have rb := plc_rel hB.1 hB.2
  have na := hA.n1
  have nb := hB.n1
  obtain ⟨_, _, _, da⟩ := valid_of hA.1
  obtain ⟨_, _, _, db⟩ := valid_of hB.1
  change Rel (A.p s) at ra
  change Rel (B.p r) at rb
  obtain ⟨ax, ay, az⟩ := ra
  obtain ⟨bx, by', bz⟩ := rb
  have x := v_rel ax bx (by omega) (by omega)
  have y := v_rel ay by' (by omega) (by omega)
  have z := v_rel az bz (by omega) (by omega)
  have hv : 1 ≤ (A.p s).n * (B.p r).n := by have := Int.mul_pos (show 0 < (A.p s).n by omega) (show 0 < (B.p r).n by omega); omega
  have hd0 : 0 ≤ vd A.d B.d (A.p s) (B.p r) := Int.mul_nonneg (by omega) (by omega)
  have hd1 : vd A.d B.d (A.p s) (B.p r) ≤ 2000 * ((A.p s).n * (B.p r).n) := Int.mul_le_mul_of_nonneg_right (by omega) (by omega)
  change _ ≤ vx (A.p s) (B.p r) ∧ vx (A.p s) (B.p r) ≤ _ at x
  change _ ≤ vy (A.p s) (B.p r) ∧ vy (A.p s) (B.p r) ≤ _ at y
  change _ ≤ vz (A.p s) (B.p r) ∧ vz (A.p s) (B.p r) ≤ _ at z
  have fx := fr_up x ⟨hd0, hd1⟩
  have fy := fr_up y ⟨hd0, hd1⟩
  have fz := fr_up z ⟨hd0, hd1⟩
  have hle : sqN A B s r ≤ sqF A B s r := by
    unfold sqN sqF
    exact Int.le_trans (nsum_nr_le hd0) (le_nsum_fr hd0)
  have hnn : 0 ≤ sqN A B s r := nsum_nr_nn _ _ _ _
  unfold vn
  refine ⟨hv, hnn, hle, ?_⟩
  unfold sqF
  rw [nsum3]
  have sx := sq_up fx.1 fx.2
  have sy := sq_up fy.1 fy.2
  have sz := sq_up fz.1 fz.2
  generalize (A.p s).n * (B.p r).n = V at *
  have e1 : 2002000 * V * (2002000 * V) = 4008004000000 * (V * V) := by rw [Int.mul_assoc, Int.mul_left_comm V, ← Int.mul_assoc]; rfl
  have e2 : 6006000 * V * (6006000 * V) = 36072036000000 * (V * V) := by rw [Int.mul_assoc, Int.mul_left_comm V, ← Int.mul_assoc]; rfl
  have hVV := Int.mul_pos (show 0 < V by omega) (show 0 < V by omega)
  omega
noncomputable def dHi (A B : Trk) (t : Int) : Int := Classical.choose (RL_exists (pF (sqF A B t t) (vn (A.p t) (B.p t))) 6006000)
noncomputable def dLo (A B : Trk) (t : Int) : Int := Classical.choose (RL_exists (pN (sqN A B t t) (vn (A.p t) (B.p t))) 6006000) - 1
theorem dHi_RL (A B : Trk) (t : Int) : RL (pF (sqF A B t t) (vn (A.p t) (B.p t))) 0 6006000 (dHi A B t) := Classical.choose_spec (RL_exists (pF (sqF A B t t) (vn (A.p t) (B.p t))) 6006000)
theorem dLo_RL (A B : Trk) (t : Int) : RL (pN (sqN A B t t) (vn (A.p t) (B.p t))) 0 6006000 (dLo A B t + 1) := by
  unfold dLo
  rw [Int.sub_add_cancel]
  exact Classical.choose_spec (RL_exists (pN (sqN A B t t) (vn (A.p t) (B.p t))) 6006000)
theorem same_d {A B A' B' : Trk} (hA : A.k = A'.k ∧ A.n = A'.n ∧ A.d = A'.d) (hB : B.k = B'.k ∧ B.n = B'.n ∧ B.d = B'.d) (t : Int) : sqN A B t t = sqN A' B' t t ∧ sqF A B t t = sqF A' B' t t ∧ vn (A.p t) (B.p t) = vn (A'.p t) (B'.p t) := by
  unfold sqF sqN Trk.p
  rw [hA.1, hA.2.1, hA.2.2, hB.1, hB.2.1, hB.2.2]
  exact ⟨rfl, rfl, rfl⟩
noncomputable def dsLo (A B : TV) (t : Int) : Int := if distErr A B t = 0 then dLo A.t B.t t else 0
noncomputable def dsHi (A B : TV) (t : Int) : Int := if distErr A B t = 0 then dHi A.t B.t t else 0
/-- DistanceAt, by its numbers. -/
theorem distanceAt_n (A B : TV) (s : Int) (w : World) (hA : A.At w) (hB : B.At w) :
    Calls Try.prog 15 #[.agg #[.slice A.a A.n A.c, .int .i64 A.d], .agg #[.slice B.a B.n B.c, .int .i64 B.d], .int .i64 s] w fun e w' => e = .returned (.tuple #[.agg #[.int .i64 (dsLo A B s), .int .i64 (dsHi A B s)], .int .i64 (distErr A B s)]) ∧ Below w.heap.size w w' := by
  refine (distanceAt_x A.a B.a A.n A.c B.n B.c A.k B.k A.d B.d s w hA hB).mono ?_
  rintro e w' ⟨hb, hh⟩
  refine ⟨?_, hb⟩
  change (if distErr A B s = 0 then _ else e = Ending.returned (.tuple #[.agg #[.int .i64 0, .int .i64 0], .int .i64 (distErr A B s)])) at hh
  by_cases hd : distErr A B s = 0
  · rw [if_pos hd] at hh
    obtain ⟨A', B', r1, r2, hA', hB', rfl, h1, h2⟩ := hh
    obtain ⟨tA, tB⟩ := distErr_in hd
    obtain ⟨v1, _, _, _⟩ := sqF_lt tA tB
    obtain ⟨e1, e2, e3⟩ := same_d (A' := A.t) (B' := B.t) hA' hB' s
    rw [e1, e3] at h1
    rw [e2, e3] at h2
    have q1 : r1 = dLo A.t B.t s + 1 := RL_same (pN_mono (by omega)) h1 (dLo_RL A.t B.t s)
    have q2 : r2 = dHi A.t B.t s := RL_same (pF_mono (by omega)) h2 (dHi_RL A.t B.t s)
    unfold dsLo dsHi
    rw [if_pos hd, if_pos hd, hd, q1, q2, Int.add_sub_cancel]
  · rw [if_neg hd] at hh
    unfold dsLo dsHi
    rw [if_neg hd, if_neg hd]
    exact hh
end Go.Proofs.Ytmhcmiajikffpaa
namespace Go.Proofs.Ytmhcmiajikffpaa
open Go.RowKit Go.Shelf Go.Sort
def shK (k : Nat → Knot) (u v z : Int) : Nat → Knot := fun i => ⟨(k i).t, (k i).x + u, (k i).y + v, (k i).z + z⟩
theorem rvb_0 {A B : TV} {s : Int} (eA : A.err = 0) (eB : B.err = 0) (h : timesErr A B s = 0) : distErr A B s = 0 := by
  unfold distErr bothErr; rw [if_pos eA, if_pos eB]; exact h
theorem rvb_3 {A B : TV} {s : Int} (hd : distErr A B s = 0) (h : arrB A.t B.t s (lastT B.t) = true) : rvE A B s = 0 ∧ rvLo A B s = rcLo A.t B.t s ∧ rvHi A B s = rcHi A.t B.t s := by
  obtain ⟨tA, tB⟩ := distErr_in hd
  have := rc_some tB h
  have e : rvE A B s = 0 := by
    unfold rvE
    rw [if_pos hd, if_neg (by omega)]
  exact ⟨e, by unfold rvLo; rw [if_pos e], by unfold rvHi; rw [if_pos e]⟩
theorem sh_mIdx (k : Nat → Knot) (u v z : Int) (n : Nat) (t : Int) : mIdx (shK k u v z) n t = mIdx k n t := rfl
theorem plc_shift (k : Nat → Knot) (u v z : Int) (n : Nat) (t : Int) :
    plc (shK k u v z) n t = ⟨(plc k n t).x + u * (plc k n t).n, (plc k n t).y + v * (plc k n t).n, (plc k n t).z + z * (plc k n t).n, (plc k n t).n⟩ := by
  unfold plc
  simp only [sh_mIdx]
  have e : ∀ i, (shK k u v z i).t = (k i).t := fun _ => rfl
  have ex : ∀ i, (shK k u v z i).x = (k i).x + u := fun _ => rfl
  have ey : ∀ i, (shK k u v z i).y = (k i).y + v := fun _ => rfl
  have ez : ∀ i, (shK k u v z i).z = (k i).z + z := fun _ => rfl
  simp only [e, ex, ey, ez]
  by_cases h : (k (mIdx k n t)).t = t
  · rw [if_pos h, if_pos h]
    simp
  · rw [if_neg h, if_neg h]
    simp only [Plc.mk.injEq, Int.add_mul, Int.mul_sub]
    exact ⟨by omega, by omega, by omega, trivial⟩
theorem vx_sh (a b p q u v : Int) : (b + v * q) * p - (a + u * p) * q = b * p - a * q + (v - u) * (p * q) := by
  simp only [Int.add_mul, Int.sub_mul, Int.mul_assoc, Int.mul_comm q p]
  omega
theorem enc_part {x y n u v dc dd : Int} (hn : 0 ≤ n) (hu : -dc ≤ u ∧ u ≤ dc) (hv : -dd ≤ v ∧ v ≤ dd) (hy : y = x + (v - u) * n) : nr y ((dc + dd) * n) ≤ siz x ∧ siz x ≤ fr y ((dc + dd) * n) := by
  have h1 : (v - u) * n ≤ (dc + dd) * n := Int.mul_le_mul_of_nonneg_right (by omega) hn
  have h2 : (-(dc + dd)) * n ≤ (v - u) * n := Int.mul_le_mul_of_nonneg_right (by omega) hn
  rw [Int.neg_mul] at h2
  unfold nr fr siz
  constructor <;> omega
theorem nr_zero (x : Int) : nr x 0 = siz x := by unfold nr siz; omega
theorem fr_zero (x : Int) : fr x 0 = siz x := by unfold fr; omega
structure Encl (A C : Trk) : Prop where
  sh : ∃ u v z, C.k = shK A.k u v z ∧ (-C.d ≤ u ∧ u ≤ C.d) ∧ (-C.d ≤ v ∧ v ≤ C.d) ∧ (-C.d ≤ z ∧ z ≤ C.d)
  n : C.n = A.n
  d : A.d = 0
theorem enc_sq {A B C D : Trk} {s r : Int} (hA : Encl A C) (hB : Encl B D) (h1 : TIn A s) (h2 : TIn B r) : sqN C D s r ≤ sqN A B s r ∧ sqF A B s r ≤ sqF C D s r ∧ vn (C.p s) (D.p r) = vn (A.p s) (B.p r) := by
  obtain ⟨u, v, z, ek, hu, hv, hz⟩ := hA.sh
  obtain ⟨u', v', z', ek', hu', hv', hz'⟩ := hB.sh
  have n1 := h1.n1
  have n2 := h2.n1
  have hn : 0 ≤ (A.p s).n * (B.p r).n := Int.mul_nonneg (by omega) (by omega)
  have ec : C.p s = ⟨(A.p s).x + u * (A.p s).n, (A.p s).y + v * (A.p s).n, (A.p s).z + z * (A.p s).n, (A.p s).n⟩ := by
    unfold Trk.p; rw [ek, hA.n]; exact plc_shift _ _ _ _ _ _
  have ed : D.p r = ⟨(B.p r).x + u' * (B.p r).n, (B.p r).y + v' * (B.p r).n, (B.p r).z + z' * (B.p r).n, (B.p r).n⟩ := by
    unfold Trk.p; rw [ek', hB.n]; exact plc_shift _ _ _ _ _ _
  have px := enc_part hn hu hu' (y := vx (C.p s) (D.p r)) (x := vx (A.p s) (B.p r)) (by rw [ec, ed]; exact vx_sh _ _ _ _ _ _)
  have py := enc_part hn hv hv' (y := vy (C.p s) (D.p r)) (x := vy (A.p s) (B.p r)) (by rw [ec, ed]; exact vx_sh _ _ _ _ _ _)
  have pz := enc_part hn hz hz' (y := vz (C.p s) (D.p r)) (x := vz (A.p s) (B.p r)) (by rw [ec, ed]; exact vx_sh _ _ _ _ _ _)
  have ev : vd C.d D.d (C.p s) (D.p r) = (C.d + D.d) * ((A.p s).n * (B.p r).n) := by unfold vd; rw [ec, ed]
  have e0 : vd A.d B.d (A.p s) (B.p r) = 0 := by unfold vd; rw [hA.d, hB.d]; simp
  unfold sqN sqF
  rw [ev, e0]
  simp only [nsum3, nr_zero, fr_zero]
  refine ⟨?_, ?_, by unfold vn; rw [ec, ed]⟩
  · have a1 := sq_le (nr_nn _ _) px.1
    have a2 := sq_le (nr_nn _ _) py.1
    have a3 := sq_le (nr_nn _ _) pz.1
    omega
  · have a1 := sq_le (siz_nn _) px.2
    have a2 := sq_le (siz_nn _) py.2
    have a3 := sq_le (siz_nn _) pz.2
    omega
theorem enc_arr {A B C D : Trk} {s r : Int} (hA : Encl A C) (hB : Encl B D) (h1 : TIn A s) (h2 : TIn B r) (h : arrB C D s r = true) : arrB A B s r = true := by
  obtain ⟨_, q, e⟩ := enc_sq hA hB h1 h2
  rw [arr_iff] at h ⊢
  rw [e] at h
  omega
theorem enc_away {A B C D : Trk} {s r : Int} (hA : Encl A C) (hB : Encl B D) (h1 : TIn A s) (h2 : TIn B r) (h : awayB C D s r = true) : awayB A B s r = true := by
  obtain ⟨q, _, e⟩ := enc_sq hA hB h1 h2
  cases hq : awayB A B s r with
  | true => rfl
  | false =>
    rw [away_iff] at hq
    have : awayB C D s r = false := by rw [away_iff, e]; omega
    rw [this] at h
    cases h
theorem RL_le {p p' : Int → Bool} {lo hi r r' : Int} (hm : ∀ x y, lo ≤ x → x ≤ y → p' x = true → p' y = true) (hi' : ∀ x, lo ≤ x → p x = true → p' x = true) (h : RL p lo hi r) (h' : RL p' lo hi r') : r' ≤ r := by
  obtain ⟨a1, a2, a3, a4⟩ := h
  obtain ⟨b1, b2, b3, b4⟩ := h'
  rcases Int.lt_or_le r r' with q | q
  · rcases a4 with c | c
    · omega
    · rcases b3 with z | z
      · omega
      · rw [hm r (r' - 1) a1 (by omega) (hi' r a1 c)] at z
        cases z
  · exact q
theorem enc_dist {A B C D : Trk} {t : Int} (hA : Encl A C) (hB : Encl B D) (h1 : TIn A t) (h2 : TIn B t) : dLo C D t ≤ dLo A B t ∧ dHi A B t ≤ dHi C D t := by
  obtain ⟨q1, q2, e⟩ := enc_sq hA hB h1 h2
  have hv : 0 ≤ vn (A.p t) (B.p t) := Int.mul_nonneg (by have := h1.n1; omega) (by have := h2.n1; omega)
  have l1 := dLo_RL A B t
  have l2 := dLo_RL C D t
  have u1 := dHi_RL A B t
  have u2 := dHi_RL C D t
  rw [e] at l2 u2
  constructor
  · have := RL_le (pN_mono hv) (fun x _ hx => by
      simp only [pN, decide_eq_true_eq] at hx ⊢
      omega) l1 l2
    omega
  · exact RL_le (pF_mono hv) (fun x _ hx => by
      simp only [pF, Bool.not_eq_true', decide_eq_false_iff_not] at hx ⊢
      omega) u2 u1
theorem rcLo_ge {A B : Trk} {s x : Int} (hA : TIn A s) (hB : TIn B s) (h1 : s ≤ x) (h2 : x ≤ lastT B) (hl : rcHi A B s ≤ lastT B) (h : awayB A B s x = true) : x ≤ rcLo A B s := by
  have tx := hB.to h1 h2
  have b0 := (rcHi_RL (A := A) hB).1
  have hx : x < rcHi A B s := by
    rcases Int.lt_or_le x (rcHi A B s) with q | q
    · exact q
    · have := arr_mono hA b0 (hB.to b0 hl) tx q (rc_arr hB hl)
      rw [arr_not_away hA tx this] at h
      cases h
  have hp := rcPos_RL (A := A) hB
  have hpx : x < rcPos A B s := by
    rcases Int.lt_or_le x (rcPos A B s) with q | q
    · exact q
    · rcases hp.2.2.2 with d | d
      · omega
      · change (!awayB A B s (rcPos A B s)) = true at d
        have d' : awayB A B s (rcPos A B s) = false := by simpa using d
        rw [away_mono hA hp.1 (hB.to hp.1 (by omega)) tx q d'] at h
        cases h
  unfold rcLo
  omega
theorem enc_rc {A B C D : Trk} {s : Int} (hA : Encl A C) (hB : Encl B D) (h1 : TIn A s) (h2 : TIn B s) (_ : TIn C s) (h4 : TIn D s) (hT : lastT D = lastT B) (hl : rcHi C D s ≤ lastT D) :
    rcHi A B s ≤ lastT B ∧ rcLo C D s ≤ rcLo A B s ∧ rcHi A B s ≤ rcHi C D s := by
  have b := rc_bounds (A := C) h4
  have t1 := h2.to (r := rcHi C D s) (by omega) (by omega)
  have a1 := enc_arr hA hB h1 t1 (rc_arr h4 hl)
  have k1 := rcHi_le h1 h2 (by omega) (by omega) a1
  refine ⟨by omega, ?_, k1⟩
  have b2 := rc_bounds (A := A) h2
  rcases Int.lt_or_le s (rcLo C D s) with q | q
  · have w1 := rc_lo_away h4 q
    have t2 := h2.to (r := rcLo C D s) (by omega) (by omega)
    exact rcLo_ge h1 h2 (by omega) (by omega) (by omega) (enc_away hA hB h1 t2 w1)
  · omega
theorem rcLo_mono {A B : Trk} {x y : Int} (hx : TIn A x) (hx' : TIn B x) (hy : TIn A y) (hy' : TIn B y) (hxy : x ≤ y) (hl : rcHi A B x ≤ lastT B) (hl' : rcHi A B y ≤ lastT B) : rcLo A B x ≤ rcLo A B y := by
  have b := rc_bounds (A := A) hx'
  have b2 := rc_bounds (A := A) hy'
  rcases Int.lt_or_le y (rcLo A B x) with q | q
  · have w1 := rc_lo_away (A := A) hx' (by omega)
    have tr := hx'.to (r := rcLo A B x) (by omega) (by omega)
    have w2 : awayB A B y (rcLo A B x) = true := by
      cases hq : awayB A B y (rcLo A B x) with
      | true => rfl
      | false =>
        rw [away_down tr (by omega) hx hy hxy hq] at w1
        cases w1
    exact rcLo_ge hy hy' (by omega) (by omega) hl' w2
  · omega
theorem Encl.out {A C : Trk} (h : Encl A C) (x : Int) : outside x C.k C.n = outside x A.k A.n := by
  obtain ⟨u, v, z, ek, _⟩ := h.sh
  rw [ek, h.n]
  rfl
theorem Encl.last {A C : Trk} (h : Encl A C) : lastT C = lastT A := by
  obtain ⟨u, v, z, ek, _⟩ := h.sh
  unfold lastT
  rw [ek, h.n]
  rfl
theorem Encl.tin {A C : Trk} {x : Int} (h : Encl A C) (eA : ctErr A.k A.n A.d = 0) (hx : TIn C x) : TIn A x := ⟨eA, by rw [← h.out x]; exact hx.2⟩
theorem Encl.tin' {A C : Trk} {x : Int} (h : Encl A C) (eC : ctErr C.k C.n C.d = 0) (hx : TIn A x) : TIn C x := ⟨eC, by rw [h.out x]; exact hx.2⟩
theorem rv_intro {A B : TV} {s : Int} (eA : A.err = 0) (eB : B.err = 0) (hA : TIn A.t s) (hB : TIn B.t s) (h : arrB A.t B.t s (lastT B.t) = true) : rvE A B s = 0 ∧ rvLo A B s = rcLo A.t B.t s ∧ rvHi A B s = rcHi A.t B.t s :=
  rvb_3 (rvb_0 eA eB (te_in hA.2 hB.2)) h
theorem enc_recv {A B C D : TV} {s : Int} (hA : Encl A.t C.t) (hB : Encl B.t D.t) (eA : A.err = 0) (eB : B.err = 0) (h : rvE C D s = 0) :
    rvE A B s = 0 ∧ (rvLo C D s ≤ rvLo A B s ∧ rvLo A B s ≤ rvHi A B s ∧ rvHi A B s ≤ rvHi C D s) := by
  obtain ⟨d1, l1, a1, a2⟩ := rv_ok h
  obtain ⟨t3, t4⟩ := distErr_in d1
  have t1 := hA.tin eA t3
  have t2 := hB.tin eB t4
  obtain ⟨k1, k2, k3⟩ := enc_rc hA hB t1 t2 t3 t4 hB.last l1
  have b := rc_bounds (A := A.t) t2
  have ar := arr_mono t1 (by omega) (t2.to (r := rcHi A.t B.t s) (by omega) k1) (t2.to t2.last (Int.le_refl _)) k1 (rc_arr t2 k1)
  obtain ⟨e, e1, e2⟩ := rv_intro eA eB t1 t2 ar
  rw [a1, a2, e1, e2]
  exact ⟨e, k2, b.2, k3⟩
theorem enc_trip {A B C D : TV} {s : Int} (hA : Encl A.t C.t) (hB : Encl B.t D.t) (eA : A.err = 0) (eB : B.err = 0) (h : tripE C D s = 0) :
    tripE A B s = 0 ∧ tripLo C D s ≤ tripLo A B s ∧ tripHi A B s ≤ tripHi C D s := by
  have h' := h
  unfold tripE at h
  by_cases e1 : rvE C D s = 0
  · rw [if_pos e1] at h
    by_cases e2 : rvE D C (rvLo C D s) = 0
    · rw [if_pos e2] at h
      obtain ⟨g0, g1, g2, g3⟩ := enc_recv hA hB eA eB e1
      obtain ⟨d2, l2, b1, b2⟩ := rv_ok e2
      obtain ⟨d3, l3, c1, c2⟩ := rv_ok h
      obtain ⟨uD, uC⟩ := distErr_in d2
      obtain ⟨vD, vC⟩ := distErr_in d3
      have uB := hB.tin eB uD
      have uA := hA.tin eA uC
      have vB := hB.tin eB vD
      have vA := hA.tin eA vC
      -- both ends of the true receipt are times of both tracks
      have xB := uB.mid vB g1 (by omega)
      have xA := uA.mid vA g1 (by omega)
      have yB := uB.mid vB (r := rvHi A B s) (by omega) g3
      have yA := uA.mid vA (r := rvHi A B s) (by omega) g3
      have bH := rc_bounds (A := D.t) vC
      have ar := enc_arr hB hA vB (vA.to (r := rcHi D.t C.t (rvHi C D s)) (by omega) (by rw [← hA.last]; exact l3)) (rc_arr vC l3)
      have lA : rcHi D.t C.t (rvHi C D s) ≤ lastT A.t := by rw [← hA.last]; exact l3
      have tz := vA.to (r := rcHi D.t C.t (rvHi C D s)) (by omega) lA
      have arx := arr_down tz (by omega) xB vB (by omega) ar
      have ary := arr_down tz (by omega) yB vB (by omega) ar
      have tl := vA.to vA.last (Int.le_refl _)
      obtain ⟨p0, p1, p2⟩ := rv_intro eB eA xB xA (arr_mono xB (by omega) tz tl lA arx)
      obtain ⟨q0, q1, q2⟩ := rv_intro eB eA yB yA (arr_mono yB (by omega) tz tl lA ary)
      have et : tripE A B s = 0 := by unfold tripE; rw [if_pos g0, if_pos p0]; exact q0
      have i1 : tripLo C D s = rcLo D.t C.t (rvLo C D s) := by unfold tripLo; rw [if_pos h', b1]
      have i2 : tripHi C D s = rcHi D.t C.t (rvHi C D s) := by unfold tripHi; rw [if_pos h', c2]
      have j1 : tripLo A B s = rcLo B.t A.t (rvLo A B s) := by unfold tripLo; rw [if_pos et, p1]
      have j2 : tripHi A B s = rcHi B.t A.t (rvHi A B s) := by unfold tripHi; rw [if_pos et, q2]
      rw [i1, i2, j1, j2]
      refine ⟨et, ?_, rcHi_le yB yA (by omega) lA ary⟩
      -- the known receipt of the return grows with the time at which it is sent
      have xD := hB.tin' uD.1 xB
      have xC := hA.tin' uC.1 xA
      have arD : rcHi D.t C.t (rvLo A B s) ≤ lastT C.t := by
        refine Int.le_trans (rcHi_le xD xC (x := rcHi D.t C.t (rvHi C D s)) (by omega) l3 ?_) l3
        exact arr_down (vC.to (by omega) l3) (by omega) xD vD (by omega) (rc_arr vC l3)
      have m1 := rcLo_mono uD uC xD xC g1 l2 arD
      have m2 := (enc_rc hB hA xB xA xD xC hA.last arD).2.1
      omega
    · rw [if_neg e2] at h; exact absurd h e2
  · rw [if_neg e1] at h; exact absurd h e1
end Go.Proofs.Ytmhcmiajikffpaa
namespace Go.Proofs.Ytmhcmiajikffpaa
open Go.RowKit Go.Shelf Go.Sort
attribute [local go_sem] idx3_0 idx3_1 idx3_2 old1 fro1 old2 fro2 old3 fro3 old4 fro4 old5 fro5 old6 fro6 old7 fro7 old8 fro8 old9 fro9 old10 fro10 old11 fro11 old12 fro12
def shIn (x y z d : Int) : Bool := wi x (-d) d && wi y (-d) d && wi z (-d) d
set_option maxRecDepth 100000 in
set_option maxHeartbeats 400000 in
theorem pathWithin_any (x y z d : Int) (h0 : 0 ≤ d) (h1 : d ≤ 1000) (w : World) :
    Calls Try.prog 28 #[.agg #[.int .i64 x, .int .i64 y, .int .i64 z], .int .i64 d] w fun e w' => e = .returned (.bool (shIn x y z d)) ∧ Below w.heap.size w w' := by
  have hn : IntKind.i64.wrap (-d) = -d := IntWalk.i64_in _ (by omega)
  rcases Bool.eq_false_or_eq_true (wi x (-d) d) with ha | ha
  · rcases Bool.eq_false_or_eq_true (wi y (-d) d) with hb | hb
    · have hs : shIn x y z d = wi z (-d) d := by unfold shIn; rw [ha, hb]; rfl
      rw [hs]
      clear hs
      go_enter Try.func28, Try.ntmps28
      go_wp2_with (go_at_call 13; (with_reducible refine (bwithin_any _ _ _ _).mono ?_); rintro e w' ⟨rfl, rfl⟩)
      go_ret
      exact ⟨rfl, by (repeat (first | with_reducible exact Below.refl _ _ | with_reducible assumption | with_reducible refine Below.alloc ?_ (by first | (simp; done) | (simp; omega) | omega) _ | with_reducible refine Below.setCell ?_ (by first | (simp; done) | (simp; omega) | omega) _ | with_reducible refine Below.drew ?_ | with_reducible refine below_drewN ?_ _))⟩
    · have hs : shIn x y z d = false := by unfold shIn; rw [ha, hb]; rfl
      rw [hs]
      clear hs
      go_enter Try.func28, Try.ntmps28
      go_wp2_with (go_at_call 13; (with_reducible refine (bwithin_any _ _ _ _).mono ?_); rintro e w' ⟨rfl, rfl⟩)
      go_ret
      exact ⟨rfl, by (repeat (first | with_reducible exact Below.refl _ _ | with_reducible assumption | with_reducible refine Below.alloc ?_ (by first | (simp; done) | (simp; omega) | omega) _ | with_reducible refine Below.setCell ?_ (by first | (simp; done) | (simp; omega) | omega) _ | with_reducible refine Below.drew ?_ | with_reducible refine below_drewN ?_ _))⟩
  · have hs : shIn x y z d = false := by unfold shIn; rw [ha]; rfl
    rw [hs]
    clear hs
    go_enter Try.func28, Try.ntmps28
    go_wp2_with (go_at_call 13; (with_reducible refine (bwithin_any _ _ _ _).mono ?_); rintro e w' ⟨rfl, rfl⟩)
    go_ret
    exact ⟨rfl, by (repeat (first | with_reducible exact Below.refl _ _ | with_reducible assumption | with_reducible refine Below.alloc ?_ (by first | (simp; done) | (simp; omega) | omega) _ | with_reducible refine Below.setCell ?_ (by first | (simp; done) | (simp; omega) | omega) _ | with_reducible refine Below.drew ?_ | with_reducible refine below_drewN ?_ _))⟩
end Go.Proofs.Ytmhcmiajikffpaa
