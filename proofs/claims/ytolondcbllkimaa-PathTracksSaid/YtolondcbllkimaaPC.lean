/- Helpers: the document's own check of a track is the program's. -/
import Derived.Test.YtolondcbllkimaaPB
import Derived.Test.YtolondcbllkimaaH
namespace Go.Proofs.Ytolondcbllkimaa
open Go.RowKit Go.Shelf Go.Sort
attribute [local go_sem] idx3_0 idx3_1 idx3_2 old1 fro1 old2 fro2 old3 fro3 old4 fro4 old5 fro5 old6 fro6 old7 fro7 old8 fro8 old9 fro9 old10 fro10 old11 fro11 old12 fro12
set_option maxRecDepth 100000 in
set_option maxHeartbeats 400000 in
theorem rcheckTrack_0 (A : Option Addr) (c : Nat) (d : Int) (w : World) :
    Calls Try.prog 14 #[.agg #[.slice A 0 c, .int .i64 d]] w fun e w' => e = .returned (.tuple #[.int .i64 0, .int .i64 10]) ∧ Below w.heap.size w w' := by
  go_enter Try.func14, Try.ntmps14
  go_wp2
  go_ret2
  exact ⟨rfl, by (repeat (first | with_reducible exact Below.refl _ _ | with_reducible assumption | with_reducible refine Below.alloc ?_ (by first | (simp; done) | (simp; omega) | omega) _ | with_reducible refine Below.setCell ?_ (by first | (simp; done) | (simp; omega) | omega) _ | with_reducible refine Below.drew ?_ | with_reducible refine below_drewN ?_ _))⟩
set_option maxRecDepth 100000 in
set_option maxHeartbeats 400000 in
theorem rcheckTrack_l (A : Option Addr) (n c : Nat) (d : Int) (w : World) (h : 12 < n) (hn : n ≤ 9223372036854775807) :
    Calls Try.prog 14 #[.agg #[.slice A n c, .int .i64 d]] w fun e w' => e = .returned (.tuple #[.int .i64 0, .int .i64 8]) ∧ Below w.heap.size w w' := by
  have hz : ((n : Int) == 0) = false := by simp; omega
  go_enter Try.func14, Try.ntmps14
  go_wp2
  go_ret2
  exact ⟨rfl, by (repeat (first | with_reducible exact Below.refl _ _ | with_reducible assumption | with_reducible refine Below.alloc ?_ (by first | (simp; done) | (simp; omega) | omega) _ | with_reducible refine Below.setCell ?_ (by first | (simp; done) | (simp; omega) | omega) _ | with_reducible refine Below.drew ?_ | with_reducible refine below_drewN ?_ _))⟩
set_option maxRecDepth 100000 in
set_option maxHeartbeats 800000 in
theorem rcheckTrack_m (b off n c : Nat) (d : Int) (w : World) (k : Nat → Knot) (h0 : 0 < n) (h : n ≤ 12) (hk : KAt w b off n k) :
    Calls Try.prog 14 #[.agg #[.slice (some ⟨b, off, none⟩) n c, .int .i64 d]] w fun e w' => e = .returned (.tuple #[.int .i64 (ctRes k n d).1, .int .i64 (ctRes k n d).2]) ∧ Below w.heap.size w w' := by
  have hz : ((n : Int) == 0) = false := by simp; omega
  have HK := Lib.hid hk
  have hb := hk.1
  clear hk
  go_enter Try.func14, Try.ntmps14
  go_wp2_with fail
  go_loopw [4] (fun i wr => ∃ j : Nat, j ≤ n ∧ i = .int .i64 j ∧ Below w.heap.size w wr ∧ w.heap.size < wr.heap.size ∧ wr.cell? ⟨w.heap.size, 0, none⟩ = some (.slice (some ⟨b, off, none⟩) n c) ∧ wr.cell? ⟨w.heap.size, 1, none⟩ = some (.int .i64 d) ∧
    Hid (∀ q, q < j → knotErr k q = 0) ∧ Hid (ctFrom k 0 n = ctFrom k j (n - j))) (fun i _ => n - (intOf i).toNat)
  case atStart => exact ⟨0, Nat.zero_le _, rfl, by (repeat (first | with_reducible exact Below.refl _ _ | with_reducible assumption | with_reducible refine Below.alloc ?_ (by first | (simp; done) | (simp; omega) | omega) _ | with_reducible refine Below.setCell ?_ (by first | (simp; done) | (simp; omega) | omega) _ | with_reducible refine Below.drew ?_ | with_reducible refine below_drewN ?_ _)), by simp, by simp [go_sem], by simp [go_sem], fun q hq => absurd hq (Nat.not_lt_zero _), rfl⟩
  case round =>
    obtain ⟨j, hj, rfl, hbel, hsz, p0, p1, H, H2⟩ := hrel
    have HS : j < n → Hid (ctFrom k j (n - j) = if knotErr k j = 0 then ctFrom k (j + 1) (n - (j + 1)) else some (j, knotErr k j)) := by
      intro hlt
      rw [show n - j = (n - (j + 1)) + 1 from by omega]; rfl
    by_cases hlt : j < n
    · have HS := HS hlt
      have hcon := rknot_any b off n c j wr k hlt (by omega) (HK.out.below hbel hb) (fun h0 => knotErr_ok (H.out (j - 1) (by omega)))
      have hws := hbel.size
      have HB := Lib.hid hbel
      clear hbel
      by_cases hz0 : knotErr k j = 0
      · rw [hz0] at hcon
        have HZ := Lib.hid hz0
        have HC := Lib.hid hcon
        clear hz0 hcon
        go_wp2_with (go_at_call 53; refine HC.out.mono ?_; rintro e w1 ⟨rfl, hb1⟩)
        go_roundw
        case rel => exact ⟨j + 1, by omega, by go_num, HB.out.trans (hb1.mono hws), Nat.lt_of_lt_of_le hsz hb1.size, (hb1.cell (p := ⟨w.heap.size, 0, none⟩) hsz).trans p0, (hb1.cell (p := ⟨w.heap.size, 1, none⟩) hsz).trans p1, fun q hq => (by
          rcases Nat.lt_or_eq_of_le (Nat.le_of_lt_succ hq) with h | h
          · exact H.out q h
          · rw [h]; exact HZ.out), (by show ctFrom k 0 n = _; rw [H2.out, HS.out, if_pos HZ.out])⟩
        case measure => simp [intOf]; omega
      · have HZ := Lib.hid hz0
        have hq : (knotErr k j != 0) = true := by simpa using hz0
        have HC := Lib.hid hcon
        clear hz0 hcon
        have hv : ctRes k n d = ((j : Int), knotErr k j) := by
          unfold ctRes
          rw [if_neg (by omega), if_neg (by omega), H2.out, HS.out, if_neg HZ.out]
        have HV := Lib.hid hv
        clear hv
        generalize knotErr k j = ek at hq HC HV
        go_wp2_with (go_at_call 53; refine HC.out.mono ?_; rintro e w1 ⟨rfl, hb1⟩)
        go_ret2
        exact ⟨by rw [HV.out]; rfl, HB.out.trans (hb1.mono hws)⟩
    · obtain rfl : j = n := by omega
      clear HS
      have HB := Lib.hid hbel
      clear hbel
      have hv : ctRes k j d = if wi d 0 1000 then (0, 0) else (0, 2) := by
        unfold ctRes
        rw [if_neg (by omega), if_neg (by omega), H2.out, Nat.sub_self]; rfl
      have HV := Lib.hid hv
      clear hv
      cases hd : wi d 0 1000
      all_goals
        rw [hd] at HV
        go_wp2_with (go_at_call 26; refine (bwithin_any _ _ _ _).mono ?_; rintro e w' ⟨rfl, rfl⟩)
        go_ret2
        exact ⟨by rw [HV.out]; rfl, HB.out⟩
theorem rcheckTrack_any (A : Option Addr) (n c : Nat) (d : Int) (w : World) (k : Nat → Knot) (hn : n ≤ 9223372036854775807) (hk : KA w A n k) :
    Calls Try.prog 14 #[.agg #[.slice A n c, .int .i64 d]] w fun e w' => e = .returned (.tuple #[.int .i64 (ctRes k n d).1, .int .i64 (ctRes k n d).2]) ∧ Below w.heap.size w w' := by
  by_cases h0 : n = 0
  · subst h0
    exact rcheckTrack_0 A c d w
  · by_cases h12 : 12 < n
    · have e : ctRes k n d = (0, 8) := by unfold ctRes; rw [if_neg h0, if_pos h12]
      rw [e]
      exact rcheckTrack_l A n c d w h12 hn
    · obtain ⟨b, off, rfl, hk2⟩ := hk (by omega)
      exact rcheckTrack_m b off n c d w k (by omega) (by omega) hk2
set_option maxRecDepth 100000 in
set_option maxHeartbeats 400000 in
theorem rfirst_any (b off n c : Nat) (d t : Int) (w : World) (hn : 0 < n) (_ : n ≤ 100) (h : w.cell? ⟨b, off, none⟩ = some (.int .i64 t)) :
    Calls Try.prog 54 #[.agg #[.slice (some ⟨b, off, none⟩) n c, .int .i64 d]] w fun e w' => e = .returned (.int .i64 t) ∧ ∃ o1, w' = w.alloc o1 := by
  go_enter Try.func54, Try.ntmps54
  go_wp2
  go_ret
  exact ⟨rfl, _, rfl⟩
set_option maxRecDepth 100000 in
set_option maxHeartbeats 400000 in
theorem rlast_any (b off n c : Nat) (d t : Int) (w : World) (hn : 0 < n) (hn2 : n ≤ 100) (h : w.cell? ⟨b, off + (n - 1) * 4, none⟩ = some (.int .i64 t)) :
    Calls Try.prog 55 #[.agg #[.slice (some ⟨b, off, none⟩) n c, .int .i64 d]] w fun e w' => e = .returned (.int .i64 t) ∧ ∃ o1, w' = w.alloc o1 := by
  go_enter Try.func55, Try.ntmps55
  go_wp2
  go_ret
  exact ⟨rfl, _, rfl⟩
set_option maxRecDepth 100000 in
set_option maxHeartbeats 800000 in
theorem rtimeErr_any (b off n c : Nat) (d time : Int) (w : World) (k : Nat → Knot) (hn : 0 < n) (hn2 : n ≤ 100) (hk : KAt w b off n k) :
    Calls Try.prog 15 #[.agg #[.slice (some ⟨b, off, none⟩) n c, .int .i64 d], .int .i64 time] w fun e w' => e = .returned (.int .i64 (if outside time k n then 2 else 0)) ∧ Below w.heap.size w w' := by
  obtain ⟨hb, hkk⟩ := hk
  have c1 := (hkk 0 hn).1
  have c2 := (hkk (n - 1) (by omega)).1
  rw [show off + 0 * 4 = off by omega] at c1
  clear hkk
  unfold outside
  generalize (k 0).t = t0 at c1 ⊢
  generalize (k (n - 1)).t = t1 at c2 ⊢
  cases hw : wi time t0 t1
  all_goals
    go_enter Try.func15, Try.ntmps15
    go_wp2_with fail
    go_region_held3 (fun w' => w'.cell? ⟨w.heap.size, 0, none⟩ = some (.slice (some ⟨b, off, none⟩) n c) ∧ w'.cell? ⟨w.heap.size, 1, none⟩ = some (.int .i64 d)) (simp [go_sem, *])
      (first | (go_at_call 54; refine (rfirst_any b off n c d t0 _ hn hn2 (by simp [go_sem, *])).mono ?_; rintro e w2 ⟨rfl, o3, rfl⟩) | (go_at_call 55; refine (rlast_any b off n c d t1 _ hn hn2 (by simp [go_sem, *])).mono ?_; rintro e w2 ⟨rfl, o3, rfl⟩) | (go_at_call 26; (with_reducible refine (bwithin_any _ _ _ _).mono ?_); rintro e w' ⟨rfl, rfl⟩))
    all_goals
      go_wp2
      go_ret
      exact ⟨rfl, by (repeat (first | with_reducible exact Below.refl _ _ | with_reducible assumption | with_reducible refine Below.alloc ?_ (by first | (simp; done) | (simp; omega) | omega) _ | with_reducible refine Below.setCell ?_ (by first | (simp; done) | (simp; omega) | omega) _ | with_reducible refine Below.drew ?_ | with_reducible refine below_drewN ?_ _))⟩
end Go.Proofs.Ytolondcbllkimaa
