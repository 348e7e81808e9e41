/- Helpers: the document's own check of a track is the program's. -/
import Derived.Test.YtnfoagcpgegldaaGreatB16
import Derived.Test.YtnfoagcpgegldaaGreatB09
import Derived.Test.YtnfoagcpgegldaaGreatB15
namespace Go.Proofs.YtnfoagcpgegldaaGreat
open Go.RowKit Go.Shelf Go.Sort
attribute [local go_sem] idx3_0 idx3_1 idx3_2 old1 fro1 old2 fro2 old3 fro3 old4 fro4 old5 fro5 old6 fro6 old7 fro7 old8 fro8 old9 fro9 old10 fro10 old11 fro11 old12 fro12
set_option maxRecDepth 100000 in
set_option maxHeartbeats 400000 in
theorem rcheckTrack_0 (A : Option Addr) (c : Nat) (d : Int) (w : World) :
    Calls Tryz.prog 103 #[.agg #[.slice A 0 c, .int .i64 d]] w fun e w' => e = .returned (.tuple #[.int .i64 0, .int .i64 10]) ∧ Below w.heap.size w w' := by
  go_enter Tryz.func103, Tryz.ntmps103
  go_wp2
  go_ret2
  exact ⟨rfl, by (repeat (first | with_reducible exact Below.refl _ _ | with_reducible assumption | with_reducible refine Below.alloc ?_ (by first | (simp; done) | (simp; omega) | omega) _ | with_reducible refine Below.setCell ?_ (by first | (simp; done) | (simp; omega) | omega) _ | with_reducible refine Below.drew ?_ | with_reducible refine below_drewN ?_ _))⟩
set_option maxRecDepth 100000 in
set_option maxHeartbeats 400000 in
theorem rcheckTrack_l (A : Option Addr) (n c : Nat) (d : Int) (w : World) (h : 12 < n) (hn : n ≤ 9223372036854775807) :
    Calls Tryz.prog 103 #[.agg #[.slice A n c, .int .i64 d]] w fun e w' => e = .returned (.tuple #[.int .i64 0, .int .i64 8]) ∧ Below w.heap.size w w' := by
  have hz : ((n : Int) == 0) = false := by simp; omega
  go_enter Tryz.func103, Tryz.ntmps103
  go_wp2
  go_ret2
  exact ⟨rfl, by (repeat (first | with_reducible exact Below.refl _ _ | with_reducible assumption | with_reducible refine Below.alloc ?_ (by first | (simp; done) | (simp; omega) | omega) _ | with_reducible refine Below.setCell ?_ (by first | (simp; done) | (simp; omega) | omega) _ | with_reducible refine Below.drew ?_ | with_reducible refine below_drewN ?_ _))⟩
set_option maxRecDepth 100000 in
set_option maxHeartbeats 800000 in
theorem rcheckTrack_m (b off n c : Nat) (d : Int) (w : World) (k : Nat → Knot) (h0 : 0 < n) (h : n ≤ 12) (hk : KAt w b off n k) :
    Calls Tryz.prog 103 #[.agg #[.slice (some ⟨b, off, none⟩) n c, .int .i64 d]] w fun e w' => e = .returned (.tuple #[.int .i64 (ctRes k n d).1, .int .i64 (ctRes k n d).2]) ∧ Below w.heap.size w w' := by
  have hz : ((n : Int) == 0) = false := by simp; omega
  have HK := Lib.hid hk
  have hb := hk.1
  clear hk
  go_enter Tryz.func103, Tryz.ntmps103
  go_wp2_with fail
  go_loopw [4] (fun i wr => ∃ j : Nat, j ≤ n ∧ i = .int .i64 j ∧ Below w.heap.size w wr ∧ w.heap.size < wr.heap.size ∧ wr.cell? ⟨w.heap.size, 0, none⟩ = some (.slice (some ⟨b, off, none⟩) n c) ∧ wr.cell? ⟨w.heap.size, 1, none⟩ = some (.int .i64 d) ∧
    Hid (∀ q, q < j → knotErr k q = 0) ∧ Hid (ctFrom k 0 n = ctFrom k j (n - j))) (fun i _ => n - (intOf i).toNat)
  case atStart => exact ⟨0, Nat.zero_le _, rfl, by (repeat (first | with_reducible exact Below.refl _ _ | with_reducible assumption | with_reducible refine Below.alloc ?_ (by first | (simp; done) | (simp; omega) | omega) _ | with_reducible refine Below.setCell ?_ (by first | (simp; done) | (simp; omega) | omega) _ | with_reducible refine Below.drew ?_ | with_reducible refine below_drewN ?_ _)), by simp, by simp [go_sem], by simp [go_sem], fun q hq => absurd hq (Nat.not_lt_zero _), rfl⟩
  case round =>
    obtain ⟨j, hj, rfl, hbel, hsz, p0, p1, H, H2⟩ := hrel
    have HS : j < n → Hid (ctFrom k j (n - j) = if knotErr k j = 0 then ctFrom k (j + 1) (n - (j + 1)) else some (j, knotErr k j)) := by
      intro hlt
      rw [show n - j = (n - (j + 1)) + 1 from by omega]; rfl
    by_cases hlt : j < n
    · have HS := HS hlt
      have hcon := rknot_any b off n c j wr k hlt (by omega) (HK.out.below hbel hb) (fun h0 => knotErr_ok (H.out (j - 1) (by omega)))
      have hws := hbel.size
      have HB := Lib.hid hbel
      clear hbel
      by_cases hz0 : knotErr k j = 0
      · rw [hz0] at hcon
        have HZ := Lib.hid hz0
        have HC := Lib.hid hcon
        clear hz0 hcon
        go_wp2_with (go_at_call 140; refine HC.out.mono ?_; rintro e w1 ⟨rfl, hb1⟩)
        go_roundw
        case rel => exact ⟨j + 1, by omega, by go_num, HB.out.trans (hb1.mono hws), Nat.lt_of_lt_of_le hsz hb1.size, (hb1.cell (p := ⟨w.heap.size, 0, none⟩) hsz).trans p0, (hb1.cell (p := ⟨w.heap.size, 1, none⟩) hsz).trans p1, fun q hq => (by
          rcases Nat.lt_or_eq_of_le (Nat.le_of_lt_succ hq) with h | h
          · exact H.out q h
          · rw [h]; exact HZ.out), (by show ctFrom k 0 n = _; rw [H2.out, HS.out, if_pos HZ.out])⟩
        case measure => simp [intOf]; omega
      · have HZ := Lib.hid hz0
        have hq : (knotErr k j != 0) = true := by simpa using hz0
        have HC := Lib.hid hcon
        clear hz0 hcon
        have hv : ctRes k n d = ((j : Int), knotErr k j) := by
          unfold ctRes
          rw [if_neg (by omega), if_neg (by omega), H2.out, HS.out, if_neg HZ.out]
        have HV := Lib.hid hv
        clear hv
        generalize knotErr k j = ek at hq HC HV
        go_wp2_with (go_at_call 140; refine HC.out.mono ?_; rintro e w1 ⟨rfl, hb1⟩)
        go_ret2
        exact ⟨by rw [HV.out]; rfl, HB.out.trans (hb1.mono hws)⟩
    · obtain rfl : j = n := by omega
      clear HS
      have HB := Lib.hid hbel
      clear hbel
      have hv : ctRes k j d = if wi d 0 1000 then (0, 0) else (0, 2) := by
        unfold ctRes
        rw [if_neg (by omega), if_neg (by omega), H2.out, Nat.sub_self]; rfl
      have HV := Lib.hid hv
      clear hv
      cases hd : wi d 0 1000
      all_goals
        rw [hd] at HV
        go_wp2_with (go_at_call 26; refine (bwithin_any _ _ _ _).mono ?_; rintro e w' ⟨rfl, rfl⟩)
        go_ret2
        exact ⟨by rw [HV.out]; rfl, HB.out⟩
theorem rcheckTrack_any (A : Option Addr) (n c : Nat) (d : Int) (w : World) (k : Nat → Knot) (hn : n ≤ 9223372036854775807) (hk : KA w A n k) :
    Calls Tryz.prog 103 #[.agg #[.slice A n c, .int .i64 d]] w fun e w' => e = .returned (.tuple #[.int .i64 (ctRes k n d).1, .int .i64 (ctRes k n d).2]) ∧ Below w.heap.size w w' := by
  by_cases h0 : n = 0
  · subst h0
    exact rcheckTrack_0 A c d w
  · by_cases h12 : 12 < n
    · have e : ctRes k n d = (0, 8) := by unfold ctRes; rw [if_neg h0, if_pos h12]
      rw [e]
      exact rcheckTrack_l A n c d w h12 hn
    · obtain ⟨b, off, rfl, hk2⟩ := hk (by omega)
      exact rcheckTrack_m b off n c d w k (by omega) (by omega) hk2
set_option maxRecDepth 100000 in
set_option maxHeartbeats 400000 in
theorem rfirst_any (b off n c : Nat) (d t : Int) (w : World) (hn : 0 < n) (_ : n ≤ 100) (h : w.cell? ⟨b, off, none⟩ = some (.int .i64 t)) :
    Calls Tryz.prog 30 #[.agg #[.slice (some ⟨b, off, none⟩) n c, .int .i64 d]] w fun e w' => e = .returned (.int .i64 t) ∧ ∃ o1, w' = w.alloc o1 := by
  go_enter Tryz.func30, Tryz.ntmps30
  go_wp2
  go_ret
  exact ⟨rfl, _, rfl⟩
set_option maxRecDepth 100000 in
set_option maxHeartbeats 400000 in
theorem rlast_any (b off n c : Nat) (d t : Int) (w : World) (hn : 0 < n) (hn2 : n ≤ 100) (h : w.cell? ⟨b, off + (n - 1) * 4, none⟩ = some (.int .i64 t)) :
    Calls Tryz.prog 27 #[.agg #[.slice (some ⟨b, off, none⟩) n c, .int .i64 d]] w fun e w' => e = .returned (.int .i64 t) ∧ ∃ o1, w' = w.alloc o1 := by
  go_enter Tryz.func27, Tryz.ntmps27
  go_wp2
  go_ret
  exact ⟨rfl, _, rfl⟩
set_option maxRecDepth 100000 in
set_option maxHeartbeats 800000 in
theorem rtimeErr_any (b off n c : Nat) (d time : Int) (w : World) (k : Nat → Knot) (hn : 0 < n) (hn2 : n ≤ 100) (hk : KAt w b off n k) :
    Calls Tryz.prog 59 #[.agg #[.slice (some ⟨b, off, none⟩) n c, .int .i64 d], .int .i64 time] w fun e w' => e = .returned (.int .i64 (if outside time k n then 2 else 0)) ∧ Below w.heap.size w w' := by
  obtain ⟨hb, hkk⟩ := hk
  have c1 := (hkk 0 hn).1
  have c2 := (hkk (n - 1) (by omega)).1
  rw [show off + 0 * 4 = off by omega] at c1
  clear hkk
  unfold outside
  generalize (k 0).t = t0 at c1 ⊢
  generalize (k (n - 1)).t = t1 at c2 ⊢
  cases hw : wi time t0 t1
  all_goals
    go_enter Tryz.func59, Tryz.ntmps59
    go_wp2_with fail
    go_region_held3 (fun w' => w'.cell? ⟨w.heap.size, 0, none⟩ = some (.slice (some ⟨b, off, none⟩) n c) ∧ w'.cell? ⟨w.heap.size, 1, none⟩ = some (.int .i64 d)) (simp [go_sem, *])
      (first | (go_at_call 30; refine (rfirst_any b off n c d t0 _ hn hn2 (by simp [go_sem, *])).mono ?_; rintro e w2 ⟨rfl, o3, rfl⟩) | (go_at_call 27; refine (rlast_any b off n c d t1 _ hn hn2 (by simp [go_sem, *])).mono ?_; rintro e w2 ⟨rfl, o3, rfl⟩) | (go_at_call 26; (with_reducible refine (bwithin_any _ _ _ _).mono ?_); rintro e w' ⟨rfl, rfl⟩))
    all_goals
      go_wp2
      go_ret
      exact ⟨rfl, by (repeat (first | with_reducible exact Below.refl _ _ | with_reducible assumption | with_reducible refine Below.alloc ?_ (by first | (simp; done) | (simp; omega) | omega) _ | with_reducible refine Below.setCell ?_ (by first | (simp; done) | (simp; omega) | omega) _ | with_reducible refine Below.drew ?_ | with_reducible refine below_drewN ?_ _))⟩
end Go.Proofs.YtnfoagcpgegldaaGreat
namespace Go.Proofs.YtnfoagcpgegldaaGreat
open Go.RowKit Go.Shelf Go.Sort
attribute [local go_sem] idx3_0 idx3_1 idx3_2 old1 fro1 old2 fro2 old3 fro3 old4 fro4 old5 fro5 old6 fro6 old7 fro7 old8 fro8 old9 fro9 old10 fro10 old11 fro11 old12 fro12
set_option maxRecDepth 100000 in
set_option maxHeartbeats 800000 in
theorem trackErr_any (A : Option Addr) (n c : Nat) (d : Int) (k : Nat → Knot) (w : World) (hn : n ≤ 9223372036854775807) (hk : KA w A n k) :
    Calls Tryz.prog 58 #[.agg #[.slice A n c, .int .i64 d]] w fun e w' => e = .returned (.int .i64 (ctErr k n d)) ∧ Below w.heap.size w w' := by
  have HC := fun W hW => Lib.hid (rcheckTrack_any A n c d W k hn hW)
  have HA := Lib.hid hk
  have HE : Hid (ctErr k n d = (ctRes k n d).2) := rfl
  clear hk
  generalize (ctRes k n d).2 = e2 at HC HE
  generalize (ctRes k n d).1 = e1 at HC
  go_enter Tryz.func58, Tryz.ntmps58
  go_wp2_with (go_at_call 103; (with_reducible refine Calls.mono (HC _ (HA.out.bel (by (repeat (first | with_reducible exact Below.refl _ _ | with_reducible assumption | with_reducible refine Below.alloc ?_ (by first | (simp; done) | (simp; omega) | omega) _ | with_reducible refine Below.setCell ?_ (by first | (simp; done) | (simp; omega) | omega) _ | with_reducible refine Below.drew ?_ | with_reducible refine below_drewN ?_ _))))).out ?_); rintro e w1 ⟨rfl, hb1⟩; have B1 := Lib.hid (thenB (show Below w.heap.size w _ by (repeat (first | with_reducible exact Below.refl _ _ | with_reducible assumption | with_reducible refine Below.alloc ?_ (by first | (simp; done) | (simp; omega) | omega) _ | with_reducible refine Below.setCell ?_ (by first | (simp; done) | (simp; omega) | omega) _ | with_reducible refine Below.drew ?_ | with_reducible refine below_drewN ?_ _))) hb1); clear hb1)
  go_ret
  exact ⟨ret_int HE.out.symm, B1.out⟩
set_option maxRecDepth 100000 in
set_option maxHeartbeats 800000 in
theorem bothErr_any (A B : Option Addr) (n c m c' : Nat) (d d' : Int) (k k' : Nat → Knot) (w : World) (hn : n ≤ 9223372036854775807) (hm : m ≤ 9223372036854775807) (hA : KA w A n k) (hB : KA w B m k') :
    Calls Tryz.prog 16 #[.agg #[.slice A n c, .int .i64 d], .agg #[.slice B m c', .int .i64 d']] w fun e w' => e = .returned (.int .i64 (if ctErr k n d = 0 then ctErr k' m d' else ctErr k n d)) ∧ Below w.heap.size w w' := by
  have H1 := fun W hW => Lib.hid (trackErr_any A n c d k W hn hW)
  have H2 := fun W hW => Lib.hid (trackErr_any B m c' d' k' W hm hW)
  have HA := Lib.hid hA
  have HB := Lib.hid hB
  clear hA hB
  generalize ctErr k n d = E1 at *
  generalize ctErr k' m d' = E2 at *
  by_cases h0 : E1 = 0
  · subst h0
    go_enter Tryz.func16, Tryz.ntmps16
    go_wp2_with (first
      | (go_at_call 58; (with_reducible refine Calls.mono (H1 _ (HA.out.bel (by (repeat (first | with_reducible exact Below.refl _ _ | with_reducible assumption | with_reducible refine Below.alloc ?_ (by first | (simp; done) | (simp; omega) | omega) _ | with_reducible refine Below.setCell ?_ (by first | (simp; done) | (simp; omega) | omega) _ | with_reducible refine Below.drew ?_ | with_reducible refine below_drewN ?_ _))))).out ?_); rintro e w1 ⟨rfl, hb1⟩; have B1 := Lib.hid (thenB (show Below w.heap.size w _ by (repeat (first | with_reducible exact Below.refl _ _ | with_reducible assumption | with_reducible refine Below.alloc ?_ (by first | (simp; done) | (simp; omega) | omega) _ | with_reducible refine Below.setCell ?_ (by first | (simp; done) | (simp; omega) | omega) _ | with_reducible refine Below.drew ?_ | with_reducible refine below_drewN ?_ _))) hb1); have d0 := (hb1.cell (p := ⟨w.heap.size + 1, 0, none⟩) (by first | (simp; done) | (simp; omega) | omega)).trans (show _ = some (.slice B m c') by simp [go_sem]); have d1 := (hb1.cell (p := ⟨w.heap.size + 1, 1, none⟩) (by first | (simp; done) | (simp; omega) | omega)).trans (show _ = some (.int .i64 d') by simp [go_sem]); clear hb1)
      | (go_at_call 58; (with_reducible refine Calls.mono (H2 _ (HB.out.bel B1.out)).out ?_); rintro e w2 ⟨rfl, hb2⟩; have B2 := Lib.hid (thenB B1.out hb2); clear hb2))
    go_ret
    exact ⟨rfl, B2.out⟩
  · have g0 : (E1 == 0) = false := by simp [h0]
    have g1 : (E1 != 0) = true := by simp [h0]
    rw [if_neg h0]
    clear h0
    go_enter Tryz.func16, Tryz.ntmps16
    go_wp2_with (first
      | (go_at_call 58; (with_reducible refine Calls.mono (H1 _ (HA.out.bel (by (repeat (first | with_reducible exact Below.refl _ _ | with_reducible assumption | with_reducible refine Below.alloc ?_ (by first | (simp; done) | (simp; omega) | omega) _ | with_reducible refine Below.setCell ?_ (by first | (simp; done) | (simp; omega) | omega) _ | with_reducible refine Below.drew ?_ | with_reducible refine below_drewN ?_ _))))).out ?_); rintro e w1 ⟨rfl, hb1⟩; have B1 := Lib.hid (thenB (show Below w.heap.size w _ by (repeat (first | with_reducible exact Below.refl _ _ | with_reducible assumption | with_reducible refine Below.alloc ?_ (by first | (simp; done) | (simp; omega) | omega) _ | with_reducible refine Below.setCell ?_ (by first | (simp; done) | (simp; omega) | omega) _ | with_reducible refine Below.drew ?_ | with_reducible refine below_drewN ?_ _))) hb1); clear hb1))
    go_ret
    exact ⟨rfl, B1.out⟩
set_option maxRecDepth 100000 in
set_option maxHeartbeats 800000 in
theorem timesErr_any (b off b' off' n c m c' : Nat) (d d' time : Int) (k k' : Nat → Knot) (w : World) (hn : 0 < n) (hn2 : n ≤ 100) (hm : 0 < m) (hm2 : m ≤ 100) (hA : KAt w b off n k) (hB : KAt w b' off' m k') :
    Calls Tryz.prog 17 #[.agg #[.slice (some ⟨b, off, none⟩) n c, .int .i64 d], .agg #[.slice (some ⟨b', off', none⟩) m c', .int .i64 d'], .int .i64 time] w fun e w' => e = .returned (.int .i64 (if outside time k n || outside time k' m then 2 else 0)) ∧ Below w.heap.size w w' := by
  have H1 := fun W hW => Lib.hid (rtimeErr_any b off n c d time W k hn hn2 hW)
  have H2 := fun W hW => Lib.hid (rtimeErr_any b' off' m c' d' time W k' hm hm2 hW)
  have HV : (if outside time k n || outside time k' m then (2 : Int) else 0) = if (if outside time k n then (2 : Int) else 0) = 0 then (if outside time k' m then 2 else 0) else (if outside time k n then 2 else 0) := by
    cases outside time k n <;> cases outside time k' m <;> rfl
  have ha1 := hA.1
  have hb1' := hB.1
  have HA := Lib.hid hA
  have HB := Lib.hid hB
  rw [HV]
  clear hA hB HV
  generalize (if outside time k n then (2 : Int) else 0) = T1 at *
  generalize (if outside time k' m then (2 : Int) else 0) = T2 at *
  by_cases h0 : T1 = 0
  · subst h0
    rw [if_pos rfl]
    go_enter Tryz.func17, Tryz.ntmps17
    go_wp2_with (first
      | (go_at_call 59; (with_reducible refine Calls.mono (H1 _ (HA.out.below (show Below w.heap.size w _ by (repeat (first | with_reducible exact Below.refl _ _ | with_reducible assumption | with_reducible refine Below.alloc ?_ (by first | (simp; done) | (simp; omega) | omega) _ | with_reducible refine Below.setCell ?_ (by first | (simp; done) | (simp; omega) | omega) _ | with_reducible refine Below.drew ?_ | with_reducible refine below_drewN ?_ _))) ha1)).out ?_); rintro e w1 ⟨rfl, hb1⟩; have B1 := Lib.hid (thenB (show Below w.heap.size w _ by (repeat (first | with_reducible exact Below.refl _ _ | with_reducible assumption | with_reducible refine Below.alloc ?_ (by first | (simp; done) | (simp; omega) | omega) _ | with_reducible refine Below.setCell ?_ (by first | (simp; done) | (simp; omega) | omega) _ | with_reducible refine Below.drew ?_ | with_reducible refine below_drewN ?_ _))) hb1); have d0 := (hb1.cell (p := ⟨w.heap.size + 1, 0, none⟩) (by first | (simp; done) | (simp; omega) | omega)).trans (show _ = some (.slice (some ⟨b', off', none⟩) m c') by simp [go_sem]); have d1 := (hb1.cell (p := ⟨w.heap.size + 1, 1, none⟩) (by first | (simp; done) | (simp; omega) | omega)).trans (show _ = some (.int .i64 d') by simp [go_sem]); clear hb1)
      | (go_at_call 59; (with_reducible refine Calls.mono (H2 _ (HB.out.below B1.out hb1')).out ?_); rintro e w2 ⟨rfl, hb2⟩; have B2 := Lib.hid (thenB B1.out hb2); clear hb2))
    go_ret
    exact ⟨rfl, B2.out⟩
  · have g0 : (T1 == 0) = false := by simp [h0]
    have g1 : (T1 != 0) = true := by simp [h0]
    rw [if_neg h0]
    clear h0
    go_enter Tryz.func17, Tryz.ntmps17
    go_wp2_with (first
      | (go_at_call 59; (with_reducible refine Calls.mono (H1 _ (HA.out.below (show Below w.heap.size w _ by (repeat (first | with_reducible exact Below.refl _ _ | with_reducible assumption | with_reducible refine Below.alloc ?_ (by first | (simp; done) | (simp; omega) | omega) _ | with_reducible refine Below.setCell ?_ (by first | (simp; done) | (simp; omega) | omega) _ | with_reducible refine Below.drew ?_ | with_reducible refine below_drewN ?_ _))) ha1)).out ?_); rintro e w1 ⟨rfl, hb1⟩; have B1 := Lib.hid (thenB (show Below w.heap.size w _ by (repeat (first | with_reducible exact Below.refl _ _ | with_reducible assumption | with_reducible refine Below.alloc ?_ (by first | (simp; done) | (simp; omega) | omega) _ | with_reducible refine Below.setCell ?_ (by first | (simp; done) | (simp; omega) | omega) _ | with_reducible refine Below.drew ?_ | with_reducible refine below_drewN ?_ _))) hb1); clear hb1))
    go_ret
    exact ⟨rfl, B1.out⟩
set_option maxRecDepth 100000 in
set_option maxHeartbeats 800000 in
theorem few2_any (A B : Option Addr) (n c m c' : Nat) (d d' : Int) (w : World) (hn : n ≤ 9223372036854775807) (hm : m ≤ 9223372036854775807) :
    Calls Tryz.prog 12 #[.agg #[.slice A n c, .int .i64 d], .agg #[.slice B m c', .int .i64 d']] w fun e w' => e = .returned (.bool (decide ((n : Int) ≤ 14) && decide ((m : Int) ≤ 14))) ∧ Below w.heap.size w w' := by
  have H1 := fun W => Lib.hid (few_any A n c d W hn)
  have H2 := fun W => Lib.hid (few_any B m c' d' W hm)
  generalize decide ((n : Int) ≤ 14) = q1 at *
  generalize decide ((m : Int) ≤ 14) = q2 at *
  cases q1
  · go_enter Tryz.func12, Tryz.ntmps12
    go_wp2_with (first
      | (go_at_call 50; (with_reducible refine Calls.mono (H1 _).out ?_); rintro e w1 ⟨rfl, hb1⟩; have B1 := Lib.hid (thenB (show Below w.heap.size w _ by (repeat (first | with_reducible exact Below.refl _ _ | with_reducible assumption | with_reducible refine Below.alloc ?_ (by first | (simp; done) | (simp; omega) | omega) _ | with_reducible refine Below.setCell ?_ (by first | (simp; done) | (simp; omega) | omega) _ | with_reducible refine Below.drew ?_ | with_reducible refine below_drewN ?_ _))) hb1); clear hb1))
    go_ret
    exact ⟨rfl, B1.out⟩
  · go_enter Tryz.func12, Tryz.ntmps12
    go_wp2_with (first
      | (go_at_call 50; (with_reducible refine Calls.mono (H1 _).out ?_); rintro e w1 ⟨rfl, hb1⟩; have B1 := Lib.hid (thenB (show Below w.heap.size w _ by (repeat (first | with_reducible exact Below.refl _ _ | with_reducible assumption | with_reducible refine Below.alloc ?_ (by first | (simp; done) | (simp; omega) | omega) _ | with_reducible refine Below.setCell ?_ (by first | (simp; done) | (simp; omega) | omega) _ | with_reducible refine Below.drew ?_ | with_reducible refine below_drewN ?_ _))) hb1); have d0 := (hb1.cell (p := ⟨w.heap.size + 1, 0, none⟩) (by first | (simp; done) | (simp; omega) | omega)).trans (show _ = some (.slice B m c') by simp [go_sem]); have d1 := (hb1.cell (p := ⟨w.heap.size + 1, 1, none⟩) (by first | (simp; done) | (simp; omega) | omega)).trans (show _ = some (.int .i64 d') by simp [go_sem]); clear hb1)
      | (go_at_call 50; (with_reducible refine Calls.mono (H2 _).out ?_); rintro e w2 ⟨rfl, hb2⟩; have B2 := Lib.hid (thenB B1.out hb2); clear hb2))
    go_ret
    exact ⟨ret_bool (by simp), B2.out⟩
/-- A distance as one pair of numbers. -/
theorem dist_fix (ka kb : Nat → Knot) (na nb : Nat) (da db time : Int) (hA : ctErr ka na da = 0) (hB : ctErr kb nb db = 0) (oA : outside time ka na = false) (oB : outside time kb nb = false) :
    ∃ r1 r2, RL (pN (nsum nr (vx (plc ka na time) (plc kb nb time)) (vy (plc ka na time) (plc kb nb time)) (vz (plc ka na time) (plc kb nb time)) (vd da db (plc ka na time) (plc kb nb time)) 3) (vn (plc ka na time) (plc kb nb time))) 0 6006000 r1 ∧
      RL (pF (nsum fr (vx (plc ka na time) (plc kb nb time)) (vy (plc ka na time) (plc kb nb time)) (vz (plc ka na time) (plc kb nb time)) (vd da db (plc ka na time) (plc kb nb time)) 3) (vn (plc ka na time) (plc kb nb time))) 0 6006000 r2 ∧
      ∀ W A c B c', KA W A na ka → KA W B nb kb → Calls Tryz.prog 13 #[.agg #[.slice A na c, .int .i64 da], .agg #[.slice B nb c', .int .i64 db], .int .i64 time] W fun e w' => e = .returned (.tuple #[.agg #[.int .i64 (r1 - 1), .int .i64 r2], .int .i64 0]) ∧ Below W.heap.size W w' := by
  have pA := plc_ok hA oA
  have pB := plc_ok hB oB
  obtain ⟨_, _, _, _⟩ := valid_of hA
  obtain ⟨_, _, _, _⟩ := valid_of hB
  have hv : 0 ≤ vn (plc ka na time) (plc kb nb time) := Int.mul_nonneg (by have := pA.1; omega) (by have := pB.1; omega)
  obtain ⟨r1, h1⟩ := RL_exists (pN (nsum nr (vx (plc ka na time) (plc kb nb time)) (vy (plc ka na time) (plc kb nb time)) (vz (plc ka na time) (plc kb nb time)) (vd da db (plc ka na time) (plc kb nb time)) 3) (vn (plc ka na time) (plc kb nb time))) 6006000
  obtain ⟨r2, h2⟩ := RL_exists (pF (nsum fr (vx (plc ka na time) (plc kb nb time)) (vy (plc ka na time) (plc kb nb time)) (vz (plc ka na time) (plc kb nb time)) (vd da db (plc ka na time) (plc kb nb time)) 3) (vn (plc ka na time) (plc kb nb time))) 6006000
  refine ⟨r1, r2, h1, h2, fun W A c B c' kA kB => ?_⟩
  refine (distanceAt_x A B na c nb c' ka kb da db time W ⟨kA, show na ≤ _ by omega⟩ ⟨kB, show nb ≤ _ by omega⟩).mono ?_
  rintro e w' ⟨hb, hh⟩
  have hd : distErr ⟨A, na, c, ka, da⟩ ⟨B, nb, c', kb, db⟩ time = 0 := by
    unfold distErr bothErr timesErr TV.err
    simp only
    rw [hA, hB, oA, oB]
    rfl
  rw [if_pos hd] at hh
  obtain ⟨A', B', s1, s2, ⟨e1, e2, e3⟩, ⟨e4, e5, e6⟩, rfl, q1, q2⟩ := hh
  have t1 : s1 = r1 := by
    refine RL_same (pN_mono hv) ?_ h1
    unfold sqN Trk.p at q1
    simp only [e1, e2, e3, e4, e5, e6] at q1
    exact q1
  have t2 : s2 = r2 := by
    refine RL_same (pF_mono hv) ?_ h2
    unfold sqF Trk.p at q2
    simp only [e1, e2, e3, e4, e5, e6] at q2
    exact q2
  subst t1 t2
  exact ⟨rfl, hb⟩
end Go.Proofs.YtnfoagcpgegldaaGreat
namespace Go.Proofs.YtnfoagcpgegldaaGreat
open Go.RowKit Go.Shelf Go.Sort
/-- A coordinate on its piece: over the piece's length. -/
def lin (a b ta tb t : Int) : Int := a * (tb - t) + b * (t - ta)
theorem lin_step (a b ta tb t : Int) : lin a b ta tb (t + 1) - lin a b ta tb t = b - a := by
  unfold lin
  rw [show tb - (t + 1) = (tb - t) - 1 by omega, show t + 1 - ta = (t - ta) + 1 by omega, Int.mul_sub, Int.mul_add]
  omega
/-- Where a track is at two successive times, by its piece. -/
theorem piece {k : Nat → Knot} {n : Nat} {d r : Int} (hv : ctErr k n d = 0) (h1 : outside r k n = false) (h2 : outside (r + 1) k n = false) :
    ∃ m, m < n ∧ 0 < m ∧ 0 < (k m).t - (k (m - 1)).t ∧ psum (k m).x (k m).y (k m).z (k (m - 1)).x (k (m - 1)).y (k (m - 1)).z 3 ≤ ((k m).t - (k (m - 1)).t) * ((k m).t - (k (m - 1)).t) ∧
      (∀ t, (t = r ∨ t = r + 1) → (plc k n t).x * ((k m).t - (k (m - 1)).t) = (plc k n t).n * lin (k (m - 1)).x (k m).x (k (m - 1)).t (k m).t t ∧ (plc k n t).y * ((k m).t - (k (m - 1)).t) = (plc k n t).n * lin (k (m - 1)).y (k m).y (k (m - 1)).t (k m).t t ∧ (plc k n t).z * ((k m).t - (k (m - 1)).t) = (plc k n t).n * lin (k (m - 1)).z (k m).z (k (m - 1)).t (k m).t t) := by
  obtain ⟨hn, hn2, hkk, hd⟩ := valid_of hv
  obtain ⟨a1, a2, a3, a4⟩ := mIdx_spec hn h1
  obtain ⟨b1, b2, b3, b4⟩ := mIdx_spec hn h2
  have h0 : 0 < mIdx k n (r + 1) := by
    rcases Nat.eq_zero_or_pos (mIdx k n (r + 1)) with z | z
    · rw [z] at b2; omega
    · exact z
  obtain ⟨s1, s2, s3⟩ := knot_step (hkk _ b1) h0
  refine ⟨mIdx k n (r + 1), b1, h0, s1, s3, ?_⟩
  have key : ∀ a b ta tb t : Int, t = tb → b * (tb - ta) = 1 * lin a b ta tb t := by
    intro a b ta tb t h; subst h; unfold lin; rw [Int.sub_self, Int.mul_zero]; omega
  have key2 : ∀ a b ta tb t : Int, t = ta → a * (tb - ta) = 1 * lin a b ta tb t := by
    intro a b ta tb t h; subst h; unfold lin; rw [Int.sub_self, Int.mul_zero]; omega
  have key3 : ∀ a b ta tb t : Int, (a * (tb - t) + b * (t - ta)) * (tb - ta) = (tb - ta) * lin a b ta tb t := by
    intro a b ta tb t; unfold lin; rw [Int.mul_comm]
  rintro t (rfl | rfl)
  · -- the earlier time
    have c1 := b3 (mIdx k n (t + 1) - 1) (by omega)
    generalize hm : mIdx k n (t + 1) = m at *
    by_cases e : (k (m - 1)).t = t
    · have hi : mIdx k n t = m - 1 := by
        rcases Nat.lt_trichotomy (mIdx k n t) (m - 1) with z | z | z
        · have := b3 (mIdx k n t) (by omega)
          have hl : (k (mIdx k n t)).t < (k (m - 1)).t := by
            have : ∀ j, mIdx k n t ≤ j → j ≤ m - 1 → (k (mIdx k n t)).t ≤ (k j).t ∧ (mIdx k n t < j → (k (mIdx k n t)).t < (k j).t) := by
              intro j
              induction j with
              | zero => intro q1 q2; have : mIdx k n t = 0 := (by omega); rw [this]; exact ⟨Int.le_refl _, fun h => by omega⟩
              | succ j ih =>
                intro q1 q2
                by_cases q : mIdx k n t = j + 1
                · rw [q]; exact ⟨Int.le_refl _, fun h => by omega⟩
                · have i1 := (ih (by omega) (by omega)).1
                  have i2 := (knot_step (hkk (j + 1) (by omega)) (by omega)).1
                  rw [Nat.add_sub_cancel] at i2
                  exact ⟨by omega, fun _ => by omega⟩
            exact (this (m - 1) (by omega) (Nat.le_refl _)).2 z
          omega
        · exact z
        · have := a3 (m - 1) z
          omega
      have hp : plc k n t = ⟨(k (m - 1)).x, (k (m - 1)).y, (k (m - 1)).z, 1⟩ := by
        unfold plc
        simp only [hi]
        rw [if_pos e]
      rw [hp]
      exact ⟨key2 _ _ _ _ _ e.symm, key2 _ _ _ _ _ e.symm, key2 _ _ _ _ _ e.symm⟩
    · have hi : mIdx k n t = m := by
        rcases Nat.lt_trichotomy (mIdx k n t) m with z | z | z
        · have hl : ∀ j, mIdx k n t ≤ j → j ≤ m - 1 → (k (mIdx k n t)).t ≤ (k j).t := by
            intro j
            induction j with
            | zero => intro q1 q2; have : mIdx k n t = 0 := (by omega); rw [this]; exact Int.le_refl _
            | succ j ih =>
              intro q1 q2
              by_cases q : mIdx k n t = j + 1
              · rw [q]; exact Int.le_refl _
              · have i1 := ih (by omega) (by omega)
                have i2 := (knot_step (hkk (j + 1) (by omega)) (by omega)).1
                rw [Nat.add_sub_cancel] at i2
                omega
          have := hl (m - 1) (by omega) (Nat.le_refl _)
          omega
        · exact z
        · have := a3 m z
          omega
      have hne : (k m).t ≠ t := by omega
      have hp : plc k n t = ⟨(k (m - 1)).x * ((k m).t - t) + (k m).x * (t - (k (m - 1)).t), (k (m - 1)).y * ((k m).t - t) + (k m).y * (t - (k (m - 1)).t), (k (m - 1)).z * ((k m).t - t) + (k m).z * (t - (k (m - 1)).t), (k m).t - (k (m - 1)).t⟩ := by
        unfold plc
        simp only [hi]
        rw [if_neg hne]
      rw [hp]
      exact ⟨key3 _ _ _ _ _, key3 _ _ _ _ _, key3 _ _ _ _ _⟩
  · generalize hm : mIdx k n (r + 1) = m at *
    by_cases e : (k m).t = r + 1
    · have hp : plc k n (r + 1) = ⟨(k m).x, (k m).y, (k m).z, 1⟩ := by
        unfold plc
        simp only [hm]
        rw [if_pos e]
      rw [hp]
      exact ⟨key _ _ _ _ _ e.symm, key _ _ _ _ _ e.symm, key _ _ _ _ _ e.symm⟩
    · have hp : plc k n (r + 1) = ⟨(k (m - 1)).x * ((k m).t - (r + 1)) + (k m).x * ((r + 1) - (k (m - 1)).t), (k (m - 1)).y * ((k m).t - (r + 1)) + (k m).y * ((r + 1) - (k (m - 1)).t), (k (m - 1)).z * ((k m).t - (r + 1)) + (k m).z * ((r + 1) - (k (m - 1)).t), (k m).t - (k (m - 1)).t⟩ := by
        unfold plc
        simp only [hm]
        rw [if_neg e]
      rw [hp]
      exact ⟨key3 _ _ _ _ _, key3 _ _ _ _ _, key3 _ _ _ _ _⟩
/-- In one tick a track moves at most half a distance. -/
def Near (g h : Plc) : Prop := 4 * ((h.x * g.n - g.x * h.n) * (h.x * g.n - g.x * h.n) + (h.y * g.n - g.y * h.n) * (h.y * g.n - g.y * h.n) + (h.z * g.n - g.z * h.n) * (h.z * g.n - g.z * h.n)) ≤ g.n * h.n * (g.n * h.n)
theorem Near.symm {g h : Plc} (q : Near g h) : Near h g := by
  unfold Near at q ⊢
  have e : ∀ a b : Int, (a - b) * (a - b) = (b - a) * (b - a) := fun a b => by rw [← Int.neg_sub b a, Int.neg_mul_neg]
  rw [e (g.x * h.n), e (g.y * h.n), e (g.z * h.n), Int.mul_comm h.n g.n]
  exact q
theorem near_of {k : Nat → Knot} {n : Nat} {d r : Int} (hv : ctErr k n d = 0) (h1 : outside r k n = false) (h2 : outside (r + 1) k n = false) : Near (plc k n r) (plc k n (r + 1)) := by
  obtain ⟨m, m1, m2, s1, s2, hp⟩ := piece hv h1 h2
  obtain ⟨gx, gy, gz⟩ := hp r (.inl rfl)
  obtain ⟨hx, hy, hz⟩ := hp (r + 1) (.inr rfl)
  generalize (k m).t - (k (m - 1)).t = L at *
  generalize plc k n r = g at *
  generalize plc k n (r + 1) = h at *
  rw [psum_sq3] at s2
  unfold sq3 at s2
  have key : ∀ (u v p q D : Int), u * L = h.n * p → v * L = g.n * q → p - q = D → (u * g.n - v * h.n) * L = g.n * h.n * D := by
    intro u v p q D e1 e2 e3
    rw [Int.sub_mul, Int.mul_right_comm, e1, Int.mul_right_comm v, e2, ← e3, Int.mul_sub, Int.mul_right_comm h.n, Int.mul_comm h.n g.n, Int.mul_right_comm g.n q]
  have x1 := key _ _ _ _ _ hx gx (lin_step _ _ _ _ _)
  have y1 := key _ _ _ _ _ hy gy (lin_step _ _ _ _ _)
  have z1 := key _ _ _ _ _ hz gz (lin_step _ _ _ _ _)
  have sq : ∀ {a b : Int}, a * L = b → a * a * (L * L) = b * b := by
    intro a b e
    rw [← e]; simp only [Int.mul_assoc, Int.mul_left_comm]
  have x2 := sq x1
  have y2 := sq y1
  have z2 := sq z1
  have pp : ∀ (N D : Int), N * D * (N * D) = N * N * (D * D) := fun N D => by simp only [Int.mul_assoc, Int.mul_left_comm]
  rw [pp] at x2 y2 z2
  unfold Near
  refine Int.le_of_mul_le_mul_right ?_ (show 0 < L * L from Int.mul_pos s1 s1)
  have s3 := Int.mul_le_mul_of_nonneg_left s2 (sq_nn (g.n * h.n))
  rw [Int.mul_assoc 4, Int.add_mul, Int.add_mul, x2, y2, z2, ← Int.mul_add, ← Int.mul_add, ← Int.mul_left_comm]
  exact s3
/-- What both nearest and farthest parts keep. -/
def Lip (q : Int → Int → Int) : Prop := (∀ x d, 0 ≤ d → 0 ≤ q x d) ∧ ∀ x d x' d' a b e : Int, 0 ≤ a → 0 ≤ b → siz (x' * a - x * b) ≤ e → d' * a = d * b → 0 ≤ d → q x' d' * a ≤ q x d * b + e
theorem siz_mul_nn (x a : Int) (h : 0 ≤ a) : siz x * a = siz (x * a) := by
  unfold siz
  rw [Int.natAbs_mul]
  have : (a.natAbs : Int) = a := by omega
  rw [Int.natCast_mul, this]
theorem lip_fr : Lip fr := ⟨fun x d h => fr_nn h, fun x d x' d' a b e ha hb he hd h0 => by
  unfold fr
  rw [Int.add_mul, Int.add_mul, siz_mul_nn _ _ ha, siz_mul_nn _ _ hb, hd]
  generalize d * b = D at *
  generalize x' * a = X' at *
  generalize x * b = X at *
  unfold siz at *
  omega⟩
theorem lip_nr : Lip nr := ⟨fun x d _ => nr_nn x d, fun x d x' d' a b e ha hb he hd h0 => by
  have m : ∀ u v : Int, 0 ≤ v → max 0 u * v = max 0 (u * v) := by
    intro u v hv
    rcases Int.le_total 0 u with z | z
    · rw [Int.max_eq_right z, Int.max_eq_right (Int.mul_nonneg z hv)]
    · rw [Int.max_eq_left z, Int.max_eq_left (Int.mul_nonpos_of_nonpos_of_nonneg z hv), Int.zero_mul]
  unfold nr
  rw [m _ _ ha, m _ _ hb, Int.sub_mul, Int.sub_mul, siz_mul_nn _ _ ha, siz_mul_nn _ _ hb, hd]
  generalize d * b = D at *
  generalize x' * a = X' at *
  generalize x * b = X at *
  unfold siz at *
  omega⟩
/-- One tick later (or earlier) a distance is at most half a distance greater. -/
theorem tick {q : Int → Int → Int} (hq : Lip q) {f g h : Plc} {da db T : Int} (hf : 1 ≤ f.n) (hg : 1 ≤ g.n) (hh : 1 ≤ h.n) (a0 : 0 ≤ da) (b0 : 0 ≤ db) (hT : 0 ≤ T) (hn : Near g h)
    (h0 : nsum q (vx f g) (vy f g) (vz f g) (vd da db f g) 3 ≤ T * vn f g * (T * vn f g)) : nsum q (vx f h) (vy f h) (vz f h) (vd da db f h) 3 ≤ (T + 1) * vn f h * ((T + 1) * vn f h) := by
  have hd : 0 ≤ vd da db f g := Int.mul_nonneg (by omega) (Int.mul_nonneg (by omega) (by omega))
  have hd' : 0 ≤ vd da db f h := Int.mul_nonneg (by omega) (Int.mul_nonneg (by omega) (by omega))
  have hde : vd da db f h * g.n = vd da db f g * h.n := by unfold vd; simp only [Int.mul_left_comm, Int.mul_comm]
  have step : ∀ u v w : Int, q (h.n * 0 + (w * f.n - u * h.n)) (vd da db f h) * g.n ≤ q (v * f.n - u * g.n) (vd da db f g) * h.n + siz (w * g.n - v * h.n) * f.n := by
    intro u v w
    refine hq.2 _ _ _ _ _ _ _ (by omega) (by omega) ?_ hde hd
    rw [siz_mul_nn _ _ (by omega)]
    have e : (h.n * 0 + (w * f.n - u * h.n)) * g.n - (v * f.n - u * g.n) * h.n = (w * g.n - v * h.n) * f.n := by
      simp only [Int.mul_zero, Int.zero_add, Int.mul_sub, Int.mul_left_comm, Int.mul_comm]
      omega
    rw [e]
    exact Int.le_refl _
  have sx := step f.x g.x h.x
  have sy := step f.y g.y h.y
  have sz := step f.z g.z h.z
  rw [Int.mul_zero, Int.zero_add] at sx sy sz
  change q (vx f h) _ * g.n ≤ q (vx f g) _ * h.n + _ at sx
  change q (vy f h) _ * g.n ≤ q (vy f g) _ * h.n + _ at sy
  change q (vz f h) _ * g.n ≤ q (vz f g) _ * h.n + _ at sz
  have nx := hq.1 (vx f h) _ hd'
  have ny := hq.1 (vy f h) _ hd'
  have nz := hq.1 (vz f h) _ hd'
  rw [nsum3] at h0 ⊢
  have sq := siz_sq
  unfold Near at hn
  rw [← sq (h.x * g.n - g.x * h.n), ← sq (h.y * g.n - g.y * h.n), ← sq (h.z * g.n - g.z * h.n)] at hn
  have px := siz_nn (h.x * g.n - g.x * h.n)
  have py := siz_nn (h.y * g.n - g.y * h.n)
  have pz := siz_nn (h.z * g.n - g.z * h.n)
  have mx := hq.1 (vx f g) _ hd
  have my := hq.1 (vy f g) _ hd
  have mz := hq.1 (vz f g) _ hd
  generalize siz (h.x * g.n - g.x * h.n) = dx at *
  generalize siz (h.y * g.n - g.y * h.n) = dy at *
  generalize siz (h.z * g.n - g.z * h.n) = dz at *
  generalize q (vx f g) (vd da db f g) = ux at *
  generalize q (vy f g) (vd da db f g) = uy at *
  generalize q (vz f g) (vd da db f g) = uz at *
  generalize q (vx f h) (vd da db f h) = tx at *
  generalize q (vy f h) (vd da db f h) = ty at *
  generalize q (vz f h) (vd da db f h) = tz at *
  unfold vn at h0 ⊢
  have hN : 0 < f.n * g.n * h.n := Int.mul_pos (Int.mul_pos (by omega) (by omega)) (by omega)
  -- twice the first vector, times h.n
  have sc : ∀ (u v w S k : Int), u * u + v * v + w * w ≤ S * S → (u * k) * (u * k) + (v * k) * (v * k) + (w * k) * (w * k) ≤ (S * k) * (S * k) := by
    intro u v w S k hh
    have := Int.mul_le_mul_of_nonneg_right hh (sq_nn k)
    have e : ∀ r : Int, (r * k) * (r * k) = r * r * (k * k) := fun r => by simp only [Int.mul_left_comm, Int.mul_comm]
    rw [e, e, e, e, ← Int.add_mul, ← Int.add_mul]
    exact this
  have A1 := sc _ _ _ _ (2 * h.n) h0
  have B0 : (2 * dx) * (2 * dx) + (2 * dy) * (2 * dy) + (2 * dz) * (2 * dz) ≤ (g.n * h.n) * (g.n * h.n) := by
    have e : ∀ r : Int, (2 * r) * (2 * r) = 4 * (r * r) := fun r => by rw [Int.mul_assoc, Int.mul_left_comm r 2 r, ← Int.mul_assoc]; rfl
    rw [e, e, e]; omega
  have B1 := sc _ _ _ _ f.n B0
  have t := triangle _ _ _ _ _ _ _ _ (Int.mul_nonneg (Int.mul_nonneg hT (Int.mul_nonneg (by omega) (by omega))) (by omega)) (Int.mul_nonneg (Int.mul_nonneg (by omega) (by omega)) (by omega)) A1 B1
  have eN : T * (f.n * g.n) * (2 * h.n) + g.n * h.n * f.n = (2 * T + 1) * (f.n * g.n * h.n) := by
    rw [Int.add_mul, Int.one_mul]
    congr 1 <;> simp only [Int.mul_assoc, Int.mul_left_comm, Int.mul_comm]
  rw [eN] at t
  have up : ∀ (a b c : Int), 0 ≤ a → a * g.n ≤ b * h.n + c * f.n → (2 * a * g.n) * (2 * a * g.n) ≤ (b * (2 * h.n) + 2 * c * f.n) * (b * (2 * h.n) + 2 * c * f.n) := by
    intro a b c ha hle
    refine sq_le (Int.mul_nonneg (by omega) (by omega)) ?_
    have e1 : 2 * a * g.n = 2 * (a * g.n) := Int.mul_assoc _ _ _
    have e2 : b * (2 * h.n) = 2 * (b * h.n) := Int.mul_left_comm _ _ _
    have e3 : 2 * c * f.n = 2 * (c * f.n) := Int.mul_assoc _ _ _
    omega
  have ux' := up _ _ _ nx sx
  have uy' := up _ _ _ ny sy
  have uz' := up _ _ _ nz sz
  have big : (2 * T + 1) * (f.n * g.n * h.n) * ((2 * T + 1) * (f.n * g.n * h.n)) ≤ 2 * (T + 1) * (f.n * g.n * h.n) * (2 * (T + 1) * (f.n * g.n * h.n)) :=
    sq_le (Int.mul_nonneg (by omega) (by omega)) (Int.mul_le_mul_of_nonneg_right (by omega) (by omega))
  have fin : (2 * tx * g.n) * (2 * tx * g.n) + (2 * ty * g.n) * (2 * ty * g.n) + (2 * tz * g.n) * (2 * tz * g.n) ≤ 2 * (T + 1) * (f.n * g.n * h.n) * (2 * (T + 1) * (f.n * g.n * h.n)) := by omega
  have pos : 0 < (2 * g.n) * (2 * g.n) := Int.mul_pos (by omega) (by omega)
  refine Int.le_of_mul_le_mul_right ?_ pos
  have e1 : ∀ r : Int, (2 * r * g.n) * (2 * r * g.n) = r * r * ((2 * g.n) * (2 * g.n)) := fun r => by simp only [Int.mul_assoc, Int.mul_left_comm, Int.mul_comm]
  have e2 : 2 * (T + 1) * (f.n * g.n * h.n) * (2 * (T + 1) * (f.n * g.n * h.n)) = (T + 1) * (f.n * h.n) * ((T + 1) * (f.n * h.n)) * ((2 * g.n) * (2 * g.n)) := by simp only [Int.mul_assoc, Int.mul_left_comm, Int.mul_comm]
  rw [e1, e1, e1, e2, ← Int.add_mul, ← Int.add_mul] at fin
  exact fin
theorem nsum_swap {q : Int → Int → Int} (hq : ∀ x d, q (-x) d = q x d) (f g : Plc) (da db : Int) : nsum q (vx g f) (vy g f) (vz g f) (vd db da g f) 3 = nsum q (vx f g) (vy f g) (vz f g) (vd da db f g) 3 := by
  rw [nsum3, nsum3, vd_comm, vx_neg, vy_neg, vz_neg, hq, hq, hq]
/-- The same with the first place a tick earlier. -/
theorem tick' {q : Int → Int → Int} (hq : Lip q) (hs : ∀ x d, q (-x) d = q x d) {f g h : Plc} {da db T : Int} (hf : 1 ≤ f.n) (hg : 1 ≤ g.n) (hh : 1 ≤ h.n) (a0 : 0 ≤ da) (b0 : 0 ≤ db) (hT : 0 ≤ T) (hn : Near f h)
    (h0 : nsum q (vx f g) (vy f g) (vz f g) (vd da db f g) 3 ≤ T * vn f g * (T * vn f g)) : nsum q (vx h g) (vy h g) (vz h g) (vd da db h g) 3 ≤ (T + 1) * vn h g * ((T + 1) * vn h g) := by
  rw [← nsum_swap hs, vn_comm]
  rw [← nsum_swap hs, vn_comm] at h0
  exact tick hq hg hf hh b0 a0 hT hn h0
end Go.Proofs.YtnfoagcpgegldaaGreat
namespace Go.Proofs.YtnfoagcpgegldaaGreat
open Go.RowKit Go.Shelf Go.Sort
/-- A valid track's own time. -/
def TIn (A : Trk) (s : Int) : Prop := ctErr A.k A.n A.d = 0 ∧ outside s A.k A.n = false
theorem TIn.n1 {A : Trk} {s : Int} (h : TIn A s) : 1 ≤ (A.p s).n := (plc_ok h.1 h.2).1.1
theorem TIn.d0 {A : Trk} {s : Int} (h : TIn A s) : 0 ≤ A.d := (valid_of h.1).2.2.2.1
theorem TIn.mid {A : Trk} {s t r : Int} (h : TIn A s) (h2 : TIn A t) (h3 : s ≤ r) (h4 : r ≤ t) : TIn A r := ⟨h.1, by
  have a := wi_t.1 (show wi s (A.k 0).t (A.k (A.n - 1)).t = true by have := h.2; unfold outside at this; simpa using this)
  have b := wi_t.1 (show wi t (A.k 0).t (A.k (A.n - 1)).t = true by have := h2.2; unfold outside at this; simpa using this)
  unfold outside
  rw [wi_t.2 ⟨by omega, by omega⟩]; rfl⟩
theorem arr_iff (A B : Trk) (s r : Int) : arrB A B s r = true ↔ sqF A B s r ≤ (r - s) * vn (A.p s) (B.p r) * ((r - s) * vn (A.p s) (B.p r)) := by
  unfold arrB
  rw [Bool.not_eq_true', decide_eq_false_iff_not]
  omega
theorem away_iff (A B : Trk) (s r : Int) : awayB A B s r = false ↔ sqN A B s r ≤ (r - s) * vn (A.p s) (B.p r) * ((r - s) * vn (A.p s) (B.p r)) := by
  unfold awayB
  rw [decide_eq_false_iff_not]
  omega
theorem arr_step {A B : Trk} {s r : Int} (hA : TIn A s) (h1 : TIn B r) (h2 : TIn B (r + 1)) (hs : s ≤ r) (h : arrB A B s r = true) : arrB A B s (r + 1) = true := by
  rw [arr_iff] at h ⊢
  rw [show r + 1 - s = r - s + 1 by omega]
  exact tick lip_fr hA.n1 h1.n1 h2.n1 hA.d0 h1.d0 (by omega) (near_of h1.1 h1.2 h2.2) h
theorem away_step {A B : Trk} {s r : Int} (hA : TIn A s) (h1 : TIn B r) (h2 : TIn B (r + 1)) (hs : s ≤ r) (h : awayB A B s r = false) : awayB A B s (r + 1) = false := by
  rw [away_iff] at h ⊢
  rw [show r + 1 - s = r - s + 1 by omega]
  exact tick lip_nr hA.n1 h1.n1 h2.n1 hA.d0 h1.d0 (by omega) (near_of h1.1 h1.2 h2.2) h
theorem arr_back {A B : Trk} {s r : Int} (hB : TIn B r) (h1 : TIn A s) (h2 : TIn A (s + 1)) (hs : s + 1 ≤ r) (h : arrB A B (s + 1) r = true) : arrB A B s r = true := by
  rw [arr_iff] at h ⊢
  rw [show r - s = r - (s + 1) + 1 by omega]
  exact tick' lip_fr fr_neg h2.n1 hB.n1 h1.n1 h1.d0 hB.d0 (by omega) (near_of h1.1 h1.2 h2.2).symm h
theorem away_back {A B : Trk} {s r : Int} (hB : TIn B r) (h1 : TIn A s) (h2 : TIn A (s + 1)) (hs : s + 1 ≤ r) (h : awayB A B (s + 1) r = false) : awayB A B s r = false := by
  rw [away_iff] at h ⊢
  rw [show r - s = r - (s + 1) + 1 by omega]
  exact tick' lip_nr nr_neg h2.n1 hB.n1 h1.n1 h1.d0 hB.d0 (by omega) (near_of h1.1 h1.2 h2.2).symm h
theorem up_ind {P : Int → Prop} {a : Int} (h0 : P a) {b : Int} (hs : ∀ x, a ≤ x → x + 1 ≤ b → P x → P (x + 1)) (hab : a ≤ b) : P b := by
  have : ∀ n : Nat, a + n ≤ b → P (a + n) := by
    intro n
    induction n with
    | zero => intro _; simpa using h0
    | succ n ih =>
      intro hn
      have := hs (a + n) (by omega) (by omega) (ih (by omega))
      rwa [show a + ((n + 1 : Nat) : Int) = a + n + 1 by omega]
  have := this (b - a).toNat (by omega)
  rwa [show a + ((b - a).toNat : Int) = b by omega] at this
theorem arr_mono {A B : Trk} {s x y : Int} (hA : TIn A s) (hs : s ≤ x) (hx : TIn B x) (hy : TIn B y) (hxy : x ≤ y) (h : arrB A B s x = true) : arrB A B s y = true :=
  up_ind (P := fun z => arrB A B s z = true) h (fun z q1 q2 q => arr_step hA (hx.mid hy q1 (by omega)) (hx.mid hy (by omega) q2) (by omega) q) hxy
theorem away_mono {A B : Trk} {s x y : Int} (hA : TIn A s) (hs : s ≤ x) (hx : TIn B x) (hy : TIn B y) (hxy : x ≤ y) (h : awayB A B s x = false) : awayB A B s y = false :=
  up_ind (P := fun z => awayB A B s z = false) h (fun z q1 q2 q => away_step hA (hx.mid hy q1 (by omega)) (hx.mid hy (by omega) q2) (by omega) q) hxy
theorem arr_down {A B : Trk} {r x y : Int} (hB : TIn B r) (hr : y ≤ r) (hx : TIn A x) (hy : TIn A y) (hxy : x ≤ y) (h : arrB A B y r = true) : arrB A B x r = true := by
  rcases hc : arrB A B x r
  · have := up_ind (P := fun z => arrB A B z r = false) hc (fun z q1 q2 q => by
      cases hz : arrB A B (z + 1) r
      · rfl
      · have := arr_back hB (hx.mid hy q1 (by omega)) (hx.mid hy (by omega) q2) (by omega) hz
        rw [q] at this; cases this) hxy
    rw [this] at h; cases h
  · rfl
theorem away_down {A B : Trk} {r x y : Int} (hB : TIn B r) (hr : y ≤ r) (hx : TIn A x) (hy : TIn A y) (hxy : x ≤ y) (h : awayB A B y r = false) : awayB A B x r = false := by
  rcases hc : awayB A B x r
  · rfl
  · have := up_ind (P := fun z => awayB A B z r = true) hc (fun z q1 q2 q => by
      cases hz : awayB A B (z + 1) r
      · have := away_back hB (hx.mid hy q1 (by omega)) (hx.mid hy (by omega) q2) (by omega) hz
        rw [q] at this; cases this
      · rfl) hxy
    rw [this] at h; cases h
end Go.Proofs.YtnfoagcpgegldaaGreat
