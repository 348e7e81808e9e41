/- Helpers: the document's own check of a track is the program's. -/
import Derived.Test.YtnfoagcpgegldaaGreatB18
import Derived.Test.YtnfoagcpgegldaaGreatB09
import Derived.Test.YtnfoagcpgegldaaGreatB16
import Derived.Test.YtnfoagcpgegldaaGreatB15
namespace Go.Proofs.YtnfoagcpgegldaaGreat
open Go.RowKit Go.Shelf Go.Sort
attribute [local go_sem] idx3_0 idx3_1 idx3_2 old1 fro1 old2 fro2 old3 fro3 old4 fro4 old5 fro5 old6 fro6 old7 fro7 old8 fro8 old9 fro9 old10 fro10 old11 fro11 old12 fro12
set_option maxRecDepth 100000 in
set_option maxHeartbeats 400000 in
theorem rcheckTrack_0 (A : Option Addr) (c : Nat) (d : Int) (w : World) :
    Calls Tryz.prog 103 #[.agg #[.slice A 0 c, .int .i64 d]] w fun e w' => e = .returned (.tuple #[.int .i64 0, .int .i64 10]) ∧ Below w.heap.size w w' := by
  go_enter Tryz.func103, Tryz.ntmps103
  go_wp2
  go_ret2
  exact ⟨rfl, by (repeat (first | with_reducible exact Below.refl _ _ | with_reducible assumption | with_reducible refine Below.alloc ?_ (by first | (simp; done) | (simp; omega) | omega) _ | with_reducible refine Below.setCell ?_ (by first | (simp; done) | (simp; omega) | omega) _ | with_reducible refine Below.drew ?_ | with_reducible refine below_drewN ?_ _))⟩
set_option maxRecDepth 100000 in
set_option maxHeartbeats 400000 in
theorem rcheckTrack_l (A : Option Addr) (n c : Nat) (d : Int) (w : World) (h : 12 < n) (hn : n ≤ 9223372036854775807) :
    Calls Tryz.prog 103 #[.agg #[.slice A n c, .int .i64 d]] w fun e w' => e = .returned (.tuple #[.int .i64 0, .int .i64 8]) ∧ Below w.heap.size w w' := by
  have hz : ((n : Int) == 0) = false := by simp; omega
  go_enter Tryz.func103, Tryz.ntmps103
  go_wp2
  go_ret2
  exact ⟨rfl, by (repeat (first | with_reducible exact Below.refl _ _ | with_reducible assumption | with_reducible refine Below.alloc ?_ (by first | (simp; done) | (simp; omega) | omega) _ | with_reducible refine Below.setCell ?_ (by first | (simp; done) | (simp; omega) | omega) _ | with_reducible refine Below.drew ?_ | with_reducible refine below_drewN ?_ _))⟩
set_option maxRecDepth 100000 in
set_option maxHeartbeats 800000 in
theorem rcheckTrack_m (b off n c : Nat) (d : Int) (w : World) (k : Nat → Knot) (h0 : 0 < n) (h : n ≤ 12) (hk : KAt w b off n k) :
    Calls Tryz.prog 103 #[.agg #[.slice (some ⟨b, off, none⟩) n c, .int .i64 d]] w fun e w' => e = .returned (.tuple #[.int .i64 (ctRes k n d).1, .int .i64 (ctRes k n d).2]) ∧ Below w.heap.size w w' := by
  have hz : ((n : Int) == 0) = false := by simp; omega
  have HK := Lib.hid hk
  have hb := hk.1
  clear hk
  go_enter Tryz.func103, Tryz.ntmps103
  go_wp2_with fail
  go_loopw [4] (fun i wr => ∃ j : Nat, j ≤ n ∧ i = .int .i64 j ∧ Below w.heap.size w wr ∧ w.heap.size < wr.heap.size ∧ wr.cell? ⟨w.heap.size, 0, none⟩ = some (.slice (some ⟨b, off, none⟩) n c) ∧ wr.cell? ⟨w.heap.size, 1, none⟩ = some (.int .i64 d) ∧
    Hid (∀ q, q < j → knotErr k q = 0) ∧ Hid (ctFrom k 0 n = ctFrom k j (n - j))) (fun i _ => n - (intOf i).toNat)
  case atStart => exact ⟨0, Nat.zero_le _, rfl, by (repeat (first | with_reducible exact Below.refl _ _ | with_reducible assumption | with_reducible refine Below.alloc ?_ (by first | (simp; done) | (simp; omega) | omega) _ | with_reducible refine Below.setCell ?_ (by first | (simp; done) | (simp; omega) | omega) _ | with_reducible refine Below.drew ?_ | with_reducible refine below_drewN ?_ _)), by simp, by simp [go_sem], by simp [go_sem], fun q hq => absurd hq (Nat.not_lt_zero _), rfl⟩
  case round =>
    obtain ⟨j, hj, rfl, hbel, hsz, p0, p1, H, H2⟩ := hrel
    have HS : j < n → Hid (ctFrom k j (n - j) = if knotErr k j = 0 then ctFrom k (j + 1) (n - (j + 1)) else some (j, knotErr k j)) := by
      intro hlt
      rw [show n - j = (n - (j + 1)) + 1 from by omega]; rfl
    by_cases hlt : j < n
    · have HS := HS hlt
      have hcon := rknot_any b off n c j wr k hlt (by omega) (HK.out.below hbel hb) (fun h0 => knotErr_ok (H.out (j - 1) (by omega)))
      have hws := hbel.size
      have HB := Lib.hid hbel
      clear hbel
      by_cases hz0 : knotErr k j = 0
      · rw [hz0] at hcon
        have HZ := Lib.hid hz0
        have HC := Lib.hid hcon
        clear hz0 hcon
        go_wp2_with (go_at_call 140; refine HC.out.mono ?_; rintro e w1 ⟨rfl, hb1⟩)
        go_roundw
        case rel => exact ⟨j + 1, by omega, by go_num, HB.out.trans (hb1.mono hws), Nat.lt_of_lt_of_le hsz hb1.size, (hb1.cell (p := ⟨w.heap.size, 0, none⟩) hsz).trans p0, (hb1.cell (p := ⟨w.heap.size, 1, none⟩) hsz).trans p1, fun q hq => (by
          rcases Nat.lt_or_eq_of_le (Nat.le_of_lt_succ hq) with h | h
          · exact H.out q h
          · rw [h]; exact HZ.out), (by show ctFrom k 0 n = _; rw [H2.out, HS.out, if_pos HZ.out])⟩
        case measure => simp [intOf]; omega
      · have HZ := Lib.hid hz0
        have hq : (knotErr k j != 0) = true := by simpa using hz0
        have HC := Lib.hid hcon
        clear hz0 hcon
        have hv : ctRes k n d = ((j : Int), knotErr k j) := by
          unfold ctRes
          rw [if_neg (by omega), if_neg (by omega), H2.out, HS.out, if_neg HZ.out]
        have HV := Lib.hid hv
        clear hv
        generalize knotErr k j = ek at hq HC HV
        go_wp2_with (go_at_call 140; refine HC.out.mono ?_; rintro e w1 ⟨rfl, hb1⟩)
        go_ret2
        exact ⟨by rw [HV.out]; rfl, HB.out.trans (hb1.mono hws)⟩
    · obtain rfl : j = n := by omega
      clear HS
      have HB := Lib.hid hbel
      clear hbel
      have hv : ctRes k j d = if wi d 0 1000 then (0, 0) else (0, 2) := by
        unfold ctRes
        rw [if_neg (by omega), if_neg (by omega), H2.out, Nat.sub_self]; rfl
      have HV := Lib.hid hv
      clear hv
      cases hd : wi d 0 1000
      all_goals
        rw [hd] at HV
        go_wp2_with (go_at_call 26; refine (bwithin_any _ _ _ _).mono ?_; rintro e w' ⟨rfl, rfl⟩)
        go_ret2
        exact ⟨by rw [HV.out]; rfl, HB.out⟩
theorem rcheckTrack_any (A : Option Addr) (n c : Nat) (d : Int) (w : World) (k : Nat → Knot) (hn : n ≤ 9223372036854775807) (hk : KA w A n k) :
    Calls Tryz.prog 103 #[.agg #[.slice A n c, .int .i64 d]] w fun e w' => e = .returned (.tuple #[.int .i64 (ctRes k n d).1, .int .i64 (ctRes k n d).2]) ∧ Below w.heap.size w w' := by
  by_cases h0 : n = 0
  · subst h0
    exact rcheckTrack_0 A c d w
  · by_cases h12 : 12 < n
    · have e : ctRes k n d = (0, 8) := by unfold ctRes; rw [if_neg h0, if_pos h12]
      rw [e]
      exact rcheckTrack_l A n c d w h12 hn
    · obtain ⟨b, off, rfl, hk2⟩ := hk (by omega)
      exact rcheckTrack_m b off n c d w k (by omega) (by omega) hk2
set_option maxRecDepth 100000 in
set_option maxHeartbeats 400000 in
theorem rfirst_any (b off n c : Nat) (d t : Int) (w : World) (hn : 0 < n) (_ : n ≤ 100) (h : w.cell? ⟨b, off, none⟩ = some (.int .i64 t)) :
    Calls Tryz.prog 30 #[.agg #[.slice (some ⟨b, off, none⟩) n c, .int .i64 d]] w fun e w' => e = .returned (.int .i64 t) ∧ ∃ o1, w' = w.alloc o1 := by
  go_enter Tryz.func30, Tryz.ntmps30
  go_wp2
  go_ret
  exact ⟨rfl, _, rfl⟩
set_option maxRecDepth 100000 in
set_option maxHeartbeats 400000 in
theorem rlast_any (b off n c : Nat) (d t : Int) (w : World) (hn : 0 < n) (hn2 : n ≤ 100) (h : w.cell? ⟨b, off + (n - 1) * 4, none⟩ = some (.int .i64 t)) :
    Calls Tryz.prog 27 #[.agg #[.slice (some ⟨b, off, none⟩) n c, .int .i64 d]] w fun e w' => e = .returned (.int .i64 t) ∧ ∃ o1, w' = w.alloc o1 := by
  go_enter Tryz.func27, Tryz.ntmps27
  go_wp2
  go_ret
  exact ⟨rfl, _, rfl⟩
set_option maxRecDepth 100000 in
set_option maxHeartbeats 800000 in
theorem rtimeErr_any (b off n c : Nat) (d time : Int) (w : World) (k : Nat → Knot) (hn : 0 < n) (hn2 : n ≤ 100) (hk : KAt w b off n k) :
    Calls Tryz.prog 59 #[.agg #[.slice (some ⟨b, off, none⟩) n c, .int .i64 d], .int .i64 time] w fun e w' => e = .returned (.int .i64 (if outside time k n then 2 else 0)) ∧ Below w.heap.size w w' := by
  obtain ⟨hb, hkk⟩ := hk
  have c1 := (hkk 0 hn).1
  have c2 := (hkk (n - 1) (by omega)).1
  rw [show off + 0 * 4 = off by omega] at c1
  clear hkk
  unfold outside
  generalize (k 0).t = t0 at c1 ⊢
  generalize (k (n - 1)).t = t1 at c2 ⊢
  cases hw : wi time t0 t1
  all_goals
    go_enter Tryz.func59, Tryz.ntmps59
    go_wp2_with fail
    go_region_held3 (fun w' => w'.cell? ⟨w.heap.size, 0, none⟩ = some (.slice (some ⟨b, off, none⟩) n c) ∧ w'.cell? ⟨w.heap.size, 1, none⟩ = some (.int .i64 d)) (simp [go_sem, *])
      (first | (go_at_call 30; refine (rfirst_any b off n c d t0 _ hn hn2 (by simp [go_sem, *])).mono ?_; rintro e w2 ⟨rfl, o3, rfl⟩) | (go_at_call 27; refine (rlast_any b off n c d t1 _ hn hn2 (by simp [go_sem, *])).mono ?_; rintro e w2 ⟨rfl, o3, rfl⟩) | (go_at_call 26; (with_reducible refine (bwithin_any _ _ _ _).mono ?_); rintro e w' ⟨rfl, rfl⟩))
    all_goals
      go_wp2
      go_ret
      exact ⟨rfl, by (repeat (first | with_reducible exact Below.refl _ _ | with_reducible assumption | with_reducible refine Below.alloc ?_ (by first | (simp; done) | (simp; omega) | omega) _ | with_reducible refine Below.setCell ?_ (by first | (simp; done) | (simp; omega) | omega) _ | with_reducible refine Below.drew ?_ | with_reducible refine below_drewN ?_ _))⟩
end Go.Proofs.YtnfoagcpgegldaaGreat
namespace Go.Proofs.YtnfoagcpgegldaaGreat
open Go.RowKit Go.Shelf Go.Sort
attribute [local go_sem] idx3_0 idx3_1 idx3_2 old1 fro1 old2 fro2 old3 fro3 old4 fro4 old5 fro5 old6 fro6 old7 fro7 old8 fro8 old9 fro9 old10 fro10 old11 fro11 old12 fro12
def RX (w : World) (sa sb : Option Addr) (na ca nb cb : Nat) (da db : Int) (wx : World) : Prop :=
  Below w.heap.size w wx ∧ (wx.cell? ⟨w.heap.size, 0, none⟩ = some (.slice sa na ca) ∧ wx.cell? ⟨w.heap.size, 1, none⟩ = some (.int .i64 da)) ∧ (wx.cell? ⟨w.heap.size + 1, 0, none⟩ = some (.slice sb nb cb) ∧ wx.cell? ⟨w.heap.size + 1, 1, none⟩ = some (.int .i64 db)) ∧
  (wx.cell? ⟨w.heap.size + 1 + 1, 0, none⟩ = some (.int .i64 0) ∧ wx.cell? ⟨w.heap.size + 1 + 1, 1, none⟩ = some (.int .i64 0)) ∧ (wx.frozen? ⟨w.heap.size + 1 + 1, 0, none⟩ = false ∧ wx.frozen? ⟨w.heap.size + 1 + 1, 1, none⟩ = false)
theorem RX.to {w wx wy : World} {sa sb : Option Addr} {na ca nb cb : Nat} {da db : Int} (h : RX w sa sb na ca nb cb da db wx) (hb : Below wx.heap.size wx wy) : RX w sa sb na ca nb cb da db wy := by
  obtain ⟨p, ⟨a0, a1⟩, ⟨b0, b1⟩, ⟨r0, r1⟩, ⟨q0, q1⟩⟩ := h
  exact ⟨thenB p hb, ⟨keep hb a0, keep hb a1⟩, ⟨keep hb b0, keep hb b1⟩, ⟨keep hb r0, keep hb r1⟩, ⟨(hb.frozen (p := ⟨w.heap.size + 1 + 1, 0, none⟩) (lt_of r0)).trans q0, (hb.frozen (p := ⟨w.heap.size + 1 + 1, 1, none⟩) (lt_of r0)).trans q1⟩⟩
theorem RX.set {w wx : World} {sa sb : Option Addr} {na ca nb cb : Nat} {da db : Int} {D o : Nat} {v : Value} (h : RX w sa sb na ca nb cb da db wx) (hD : w.heap.size + 1 + 1 < D) (_ : D < wx.heap.size) : RX w sa sb na ca nb cb da db (wx.setCell ⟨D, o, none⟩ v) := by
  obtain ⟨p, ⟨a0, a1⟩, ⟨b0, b1⟩, ⟨r0, r1⟩, ⟨q0, q1⟩⟩ := h
  have n1 : w.heap.size ≠ D := by omega
  have n2 : w.heap.size + 1 ≠ D := by omega
  have n3 : w.heap.size + 1 + 1 ≠ D := by omega
  have n4 : D ≠ w.heap.size := by omega
  have n5 : D ≠ w.heap.size + 1 := by omega
  have n6 : D ≠ w.heap.size + 1 + 1 := by omega
  refine ⟨p.setCell (by show w.heap.size ≤ D; omega) _, ⟨?_, ?_⟩, ⟨?_, ?_⟩, ⟨?_, ?_⟩, ⟨?_, ?_⟩⟩
  all_goals simp [go_sem, *]
set_option maxRecDepth 100000 in
set_option maxHeartbeats 4000000 in
theorem rrec_no (ba oa na ca bb ob nb cb : Nat) (da db s T : Int) (w : World) (hn : 0 < nb) (hn2 : nb ≤ 100)
    (hL : ∀ W, Below w.heap.size w W → W.cell? ⟨bb, ob + (nb - 1) * 4, none⟩ = some (.int .i64 T))
    (hY : ∀ W, Below w.heap.size w W → Calls Tryz.prog 28 #[.agg #[.slice (some ⟨ba, oa, none⟩) na ca, .int .i64 da], .agg #[.slice (some ⟨bb, ob, none⟩) nb cb, .int .i64 db], .int .i64 s, .int .i64 T] W fun e w' => e = .returned (.bool false) ∧ Below W.heap.size W w') :
    Calls Tryz.prog 22 #[.agg #[.slice (some ⟨ba, oa, none⟩) na ca, .int .i64 da], .agg #[.slice (some ⟨bb, ob, none⟩) nb cb, .int .i64 db], .int .i64 s] w fun e w' => e = .returned (.tuple #[.agg #[.int .i64 0, .int .i64 0], .bool false]) ∧ Below w.heap.size w w' := by
  have HL := Lib.hid hL
  have HY := Lib.hid hY
  clear hL hY
  go_enter Tryz.func22, Tryz.ntmps22
  go_wp2_with fail
  go_region_held3 (fun w' => w'.cell? ⟨w.heap.size, 0, none⟩ = some (.slice (some ⟨ba, oa, none⟩) na ca) ∧ w'.cell? ⟨w.heap.size, 1, none⟩ = some (.int .i64 da) ∧ w'.cell? ⟨w.heap.size + 1, 0, none⟩ = some (.slice (some ⟨bb, ob, none⟩) nb cb) ∧ w'.cell? ⟨w.heap.size + 1, 1, none⟩ = some (.int .i64 db)) (simp [go_sem, *])
    (first | (go_at_call 27; (with_reducible refine Calls.mono (rlast_any bb ob nb cb db T _ hn hn2 (HL.out _ (by (repeat (first | with_reducible exact Below.refl _ _ | with_reducible assumption | with_reducible refine Below.alloc ?_ (by first | (simp; done) | (simp; omega) | omega) _ | with_reducible refine Below.setCell ?_ (by first | (simp; done) | (simp; omega) | omega) _ | with_reducible refine Below.drew ?_ | with_reducible refine below_drewN ?_ _))))) ?_); rintro e w1 ⟨rfl, o1, rfl⟩) | (go_at_call 28; (with_reducible refine Calls.mono (HY.out _ (show Below w.heap.size w _ by (repeat (first | with_reducible exact Below.refl _ _ | with_reducible assumption | with_reducible refine Below.alloc ?_ (by first | (simp; done) | (simp; omega) | omega) _ | with_reducible refine Below.setCell ?_ (by first | (simp; done) | (simp; omega) | omega) _ | with_reducible refine Below.drew ?_ | with_reducible refine below_drewN ?_ _)))) ?_); rintro e w2 ⟨rfl, hb2⟩; have B2 := Lib.hid (thenB (show Below w.heap.size w _ by (repeat (first | with_reducible exact Below.refl _ _ | with_reducible assumption | with_reducible refine Below.alloc ?_ (by first | (simp; done) | (simp; omega) | omega) _ | with_reducible refine Below.setCell ?_ (by first | (simp; done) | (simp; omega) | omega) _ | with_reducible refine Below.drew ?_ | with_reducible refine below_drewN ?_ _))) hb2); go_must (have a0 := keep hb2 (b := w.heap.size) (o := 0) (v := .slice (some ⟨ba, oa, none⟩) na ca) (by simp [go_sem, *])); go_must (have a1 := keep hb2 (b := w.heap.size) (o := 1) (v := .int .i64 da) (by simp [go_sem, *])); go_must (have b0 := keep hb2 (b := w.heap.size + 1) (o := 0) (v := .slice (some ⟨bb, ob, none⟩) nb cb) (by simp [go_sem, *])); go_must (have b1 := keep hb2 (b := w.heap.size + 1) (o := 1) (v := .int .i64 db) (by simp [go_sem, *])); go_must (have r0 := keep hb2 (b := w.heap.size + 1 + 1) (o := 0) (v := .int .i64 0) (by simp [go_sem, *])); go_must (have r1 := keep hb2 (b := w.heap.size + 1 + 1) (o := 1) (v := .int .i64 0) (by simp [go_sem, *])); go_must (have q0 := (hb2.frozen (p := ⟨w.heap.size + 1 + 1, 0, none⟩) (by first | (simp; done) | (simp; omega) | omega)).trans (show _ = false by simp [go_sem, *])); go_must (have q1 := (hb2.frozen (p := ⟨w.heap.size + 1 + 1, 1, none⟩) (by first | (simp; done) | (simp; omega) | omega)).trans (show _ = false by simp [go_sem, *])); have sz2 := lt_of r0; clear hb2) | fail)
  all_goals
    go_wp2_with fail
    refine bodyPost_ret (v := .tuple #[.agg #[.int .i64 0, .int .i64 0], .bool false]) (by simp [results, Tryz.results22, go_sem, *]) rfl ⟨rfl, ?_⟩
    have Bq := B2.out
    (repeat (first | with_reducible exact Below.refl _ _ | with_reducible assumption | with_reducible refine Below.alloc ?_ (by first | (simp; done) | (simp; omega) | omega) _ | with_reducible refine Below.setCell ?_ (by first | (simp; done) | (simp; omega) | omega) _ | with_reducible refine Below.drew ?_ | with_reducible refine below_drewN ?_ _))
set_option maxRecDepth 100000 in
set_option maxHeartbeats 4000000 in
theorem rrec_yes (ba oa na ca bb ob nb cb : Nat) (da db s T : Int) (fA fW : Int → Bool) (Lo Hi : Int) (w : World) (hn : 0 < nb) (hn2 : nb ≤ 100) (s0 : 0 ≤ s) (sT : s ≤ T) (T1 : T ≤ 1000000000000)
    (hL : ∀ W, Below w.heap.size w W → W.cell? ⟨bb, ob + (nb - 1) * 4, none⟩ = some (.int .i64 T)) (hT : fA T = true)
    (hA : ∀ W r, Below w.heap.size w W → s ≤ r → r ≤ T → Calls Tryz.prog 28 #[.agg #[.slice (some ⟨ba, oa, none⟩) na ca, .int .i64 da], .agg #[.slice (some ⟨bb, ob, none⟩) nb cb, .int .i64 db], .int .i64 s, .int .i64 r] W fun e w' => e = .returned (.bool (fA r)) ∧ Below W.heap.size W w')
    (hW : ∀ W r, Below w.heap.size w W → s ≤ r → r ≤ T → Calls Tryz.prog 29 #[.agg #[.slice (some ⟨ba, oa, none⟩) na ca, .int .i64 da], .agg #[.slice (some ⟨bb, ob, none⟩) nb cb, .int .i64 db], .int .i64 s, .int .i64 r] W fun e w' => e = .returned (.bool (fW r)) ∧ Below W.heap.size W w')
    (hHi : ∀ x, s ≤ x → x ≤ T → (x = s ∨ fA (x - 1) = false) → fA x = true → x = Hi)
    (hLo : ∀ x, s ≤ x → x ≤ Hi → (x = s ∨ fW x = true) → (x = Hi ∨ fW (x + 1) = false) → x = Lo) :
    Calls Tryz.prog 22 #[.agg #[.slice (some ⟨ba, oa, none⟩) na ca, .int .i64 da], .agg #[.slice (some ⟨bb, ob, none⟩) nb cb, .int .i64 db], .int .i64 s] w fun e w' => e = .returned (.tuple #[.agg #[.int .i64 Lo, .int .i64 Hi], .bool true]) ∧ Below w.heap.size w w' := by
  have HY : Hid (∀ W, Below w.heap.size w W → Calls Tryz.prog 28 #[.agg #[.slice (some ⟨ba, oa, none⟩) na ca, .int .i64 da], .agg #[.slice (some ⟨bb, ob, none⟩) nb cb, .int .i64 db], .int .i64 s, .int .i64 T] W fun e w' => e = .returned (.bool true) ∧ Below W.heap.size W w') := Lib.hid (fun W hb => by have := hA W T hb sT (Int.le_refl _); rwa [hT] at this)
  have HL := Lib.hid hL
  have HT := Lib.hid hT
  have HA := Lib.hid hA
  have HW := Lib.hid hW
  have HHI := Lib.hid hHi
  have HLO := Lib.hid hLo
  clear hL hA hW hHi hLo hT
  go_enter Tryz.func22, Tryz.ntmps22
  go_wp2_with fail
  go_region_held3 (fun w' => w'.cell? ⟨w.heap.size, 0, none⟩ = some (.slice (some ⟨ba, oa, none⟩) na ca) ∧ w'.cell? ⟨w.heap.size, 1, none⟩ = some (.int .i64 da) ∧ w'.cell? ⟨w.heap.size + 1, 0, none⟩ = some (.slice (some ⟨bb, ob, none⟩) nb cb) ∧ w'.cell? ⟨w.heap.size + 1, 1, none⟩ = some (.int .i64 db)) (simp [go_sem, *])
    (first | (go_at_call 27; (with_reducible refine Calls.mono (rlast_any bb ob nb cb db T _ hn hn2 (HL.out _ (by (repeat (first | with_reducible exact Below.refl _ _ | with_reducible assumption | with_reducible refine Below.alloc ?_ (by first | (simp; done) | (simp; omega) | omega) _ | with_reducible refine Below.setCell ?_ (by first | (simp; done) | (simp; omega) | omega) _ | with_reducible refine Below.drew ?_ | with_reducible refine below_drewN ?_ _))))) ?_); rintro e w1 ⟨rfl, o1, rfl⟩) | (go_at_call 28; (with_reducible refine Calls.mono (HY.out _ (show Below w.heap.size w _ by (repeat (first | with_reducible exact Below.refl _ _ | with_reducible assumption | with_reducible refine Below.alloc ?_ (by first | (simp; done) | (simp; omega) | omega) _ | with_reducible refine Below.setCell ?_ (by first | (simp; done) | (simp; omega) | omega) _ | with_reducible refine Below.drew ?_ | with_reducible refine below_drewN ?_ _)))) ?_); rintro e w2 ⟨rfl, hb2⟩; have B2 := Lib.hid (thenB (show Below w.heap.size w _ by (repeat (first | with_reducible exact Below.refl _ _ | with_reducible assumption | with_reducible refine Below.alloc ?_ (by first | (simp; done) | (simp; omega) | omega) _ | with_reducible refine Below.setCell ?_ (by first | (simp; done) | (simp; omega) | omega) _ | with_reducible refine Below.drew ?_ | with_reducible refine below_drewN ?_ _))) hb2); go_must (have a0 := keep hb2 (b := w.heap.size) (o := 0) (v := .slice (some ⟨ba, oa, none⟩) na ca) (by simp [go_sem, *])); go_must (have a1 := keep hb2 (b := w.heap.size) (o := 1) (v := .int .i64 da) (by simp [go_sem, *])); go_must (have b0 := keep hb2 (b := w.heap.size + 1) (o := 0) (v := .slice (some ⟨bb, ob, none⟩) nb cb) (by simp [go_sem, *])); go_must (have b1 := keep hb2 (b := w.heap.size + 1) (o := 1) (v := .int .i64 db) (by simp [go_sem, *])); go_must (have r0 := keep hb2 (b := w.heap.size + 1 + 1) (o := 0) (v := .int .i64 0) (by simp [go_sem, *])); go_must (have r1 := keep hb2 (b := w.heap.size + 1 + 1) (o := 1) (v := .int .i64 0) (by simp [go_sem, *])); go_must (have q0 := (hb2.frozen (p := ⟨w.heap.size + 1 + 1, 0, none⟩) (by first | (simp; done) | (simp; omega) | omega)).trans (show _ = false by simp [go_sem, *])); go_must (have q1 := (hb2.frozen (p := ⟨w.heap.size + 1 + 1, 1, none⟩) (by first | (simp; done) | (simp; omega) | omega)).trans (show _ = false by simp [go_sem, *])); have sz2 := lt_of r0; clear hb2) | fail)
  all_goals
    go_wp2_with (go_at_call 27; (with_reducible refine Calls.mono (rlast_any bb ob nb cb db T _ hn hn2 (HL.out _ (by have Bq := B2.out; have Bz := Bq.size; (repeat (first | with_reducible exact Below.refl _ _ | with_reducible assumption | with_reducible refine Below.alloc ?_ (by first | (simp; done) | (simp; omega) | omega) _ | with_reducible refine Below.setCell ?_ (by first | (simp; done) | (simp; omega) | omega) _ | with_reducible refine Below.drew ?_ | with_reducible refine below_drewN ?_ _))))) ?_); rintro e w1 ⟨rfl, o1, rfl⟩)
    have hRX : RX w (some ⟨ba, oa, none⟩) (some ⟨bb, ob, none⟩) na ca nb cb da db w2 := ⟨B2.out, ⟨a0, a1⟩, ⟨b0, b1⟩, ⟨r0, r1⟩, ⟨q0, q1⟩⟩
    clear a0 a1 b0 b1 r0 r1 q0 q1
    go_loopw [8, 9] (fun s8 s9 wr => ∃ lo hi : Int, s8 = .int .i64 lo ∧ s9 = .int .i64 hi ∧ s ≤ lo ∧ lo ≤ hi ∧ hi ≤ T ∧ RX w (some ⟨ba, oa, none⟩) (some ⟨bb, ob, none⟩) na ca nb cb da db wr ∧ Hid ((lo = s ∨ fA (lo - 1) = false) ∧ fA hi = true)) (fun s8 s9 _ => (intOf s9 - intOf s8).toNat)
    case atStart => exact ⟨s, T, rfl, rfl, Int.le_refl _, sT, Int.le_refl _, hRX.to (show Below w2.heap.size w2 _ by (repeat (first | with_reducible exact Below.refl _ _ | with_reducible assumption | with_reducible refine Below.alloc ?_ (by first | (simp; done) | (simp; omega) | omega) _ | with_reducible refine Below.setCell ?_ (by first | (simp; done) | (simp; omega) | omega) _ | with_reducible refine Below.drew ?_ | with_reducible refine below_drewN ?_ _))), ⟨.inl rfl, HT.out⟩⟩
    case round =>
      clear hRX
      obtain ⟨lo, hi, rfl, rfl, l1, l2, l3, hrx, I⟩ := hrel
      by_cases hlt : lo < hi
      · have HX := Lib.hid hrx
        obtain ⟨p, ⟨a0, a1⟩, ⟨b0, b1⟩, ⟨r0, r1⟩, ⟨q0, q1⟩⟩ := hrx
        have hc := HA.out wr ((lo + hi) / 2) p (by omega) (by omega)
        clear p
        cases hp : fA ((lo + hi) / 2) <;> rw [hp] at hc <;> have HP := Lib.hid hp <;> clear hp
        · go_wp2_with (go_at_call 28; (with_reducible refine Calls.mono hc ?_); rintro e w3 ⟨rfl, hb3⟩)
          go_roundw
          case rel => exact ⟨(lo + hi) / 2 + 1, hi, rfl, rfl, by omega, by omega, l3, HX.out.to hb3, ⟨.inr (by rw [Int.add_sub_cancel]; exact HP.out), I.out.2⟩⟩
          case measure => simp [intOf]; omega
        · go_wp2_with (go_at_call 28; (with_reducible refine Calls.mono hc ?_); rintro e w3 ⟨rfl, hb3⟩)
          go_roundw
          case rel => exact ⟨lo, (lo + hi) / 2, rfl, rfl, l1, by omega, by omega, HX.out.to hb3, ⟨I.out.1, HP.out⟩⟩
          case measure => simp [intOf]; omega
      · obtain rfl : hi = lo := by omega
        obtain rfl : hi = Hi := HHI.out hi l1 l3 I.out.1 I.out.2
        obtain ⟨wo, rfl⟩ : ∃ wo : World, wo = wr := ⟨_, rfl⟩
        have HX := Lib.hid hrx
        obtain ⟨p, ⟨a0, a1⟩, ⟨b0, b1⟩, ⟨r0, r1⟩, ⟨q0, q1⟩⟩ := hrx
        have pz := p.size
        have HPp := Lib.hid p
        have sr := lt_of r0
        clear p
        go_wp2_with fail
        go_loopw [12] (fun s12 wr => ∃ L t : Int, s12 = .int .i64 t ∧ s ≤ L ∧ L ≤ t ∧ t ≤ hi ∧ RX w (some ⟨ba, oa, none⟩) (some ⟨bb, ob, none⟩) na ca nb cb da db wr ∧ (wo.heap.size < wr.heap.size ∧ wr.cell? ⟨wo.heap.size, 0, none⟩ = some (.int .i64 L) ∧ wr.cell? ⟨wo.heap.size, 1, none⟩ = some (.int .i64 hi) ∧ wr.frozen? ⟨wo.heap.size, 0, none⟩ = false) ∧ Hid ((L = s ∨ fW L = true) ∧ (t = hi ∨ fW (t + 1) = false))) (fun s12 wr => (intOf s12 - intOf ((wr.cell? ⟨wo.heap.size, 0, none⟩).getD (.int .i64 0))).toNat)
        case atStart => exact ⟨s, hi, rfl, Int.le_refl _, l1, Int.le_refl _, HX.out.to (show Below wo.heap.size wo _ by (repeat (first | with_reducible exact Below.refl _ _ | with_reducible assumption | with_reducible refine Below.alloc ?_ (by first | (simp; done) | (simp; omega) | omega) _ | with_reducible refine Below.setCell ?_ (by first | (simp; done) | (simp; omega) | omega) _ | with_reducible refine Below.drew ?_ | with_reducible refine below_drewN ?_ _))), ⟨by simp, by simp [go_sem, *], by simp [go_sem, *], by simp [go_sem, *]⟩, ⟨.inl rfl, .inl rfl⟩⟩
        case round =>
          clear a0 a1 b0 b1 r0 r1 q0 q1
          obtain ⟨L, t, rfl, m1, m2, m3, hrx, ⟨d0, d1, d2, d3⟩, J⟩ := hrel
          have HX2 := Lib.hid hrx
          obtain ⟨p, ⟨a0, a1⟩, ⟨b0, b1⟩, ⟨r0, r1⟩, ⟨q0, q1⟩⟩ := hrx
          by_cases hlt2 : L < t
          · have hc := HW.out wr ((L + t + 1) / 2) p (by omega) (by omega)
            have HPq := Lib.hid p
            clear p
            cases hp : fW ((L + t + 1) / 2) <;> rw [hp] at hc <;> have HP := Lib.hid hp <;> clear hp
            · go_wp2_with (go_at_call 29; (with_reducible refine Calls.mono hc ?_); rintro e w3 ⟨rfl, hb3⟩)
              go_roundw
              case rel => exact ⟨L, (L + t + 1) / 2 - 1, rfl, m1, by omega, by omega, HX2.out.to hb3, ⟨Nat.lt_of_lt_of_le d0 hb3.size, keep hb3 d1, keep hb3 d2, (hb3.frozen (p := ⟨wo.heap.size, 0, none⟩) d0).trans d3⟩, ⟨J.out.1, .inr (by rw [Int.sub_add_cancel]; exact HP.out)⟩⟩
              case measure => rw [keep hb3 d1, d1]; simp [intOf]; omega
            · go_wp2_with (go_at_call 29; (with_reducible refine Calls.mono hc ?_); rintro e w3 ⟨rfl, hb3⟩; have e0 := keep hb3 d1; have e2 := keep hb3 d2; have e3 := (hb3.frozen (p := ⟨wo.heap.size, 0, none⟩) d0).trans d3; have ez := Nat.lt_of_lt_of_le d0 hb3.size; have HB3 := Lib.hid hb3; clear hb3)
              go_roundw
              case rel => exact ⟨(L + t + 1) / 2, t, rfl, by omega, by omega, m3, (HX2.out.to HB3.out).set (by omega) ez, ⟨by simpa [World.setCell] using ez, by simp [go_sem, *], by simp [go_sem, *], by simp [go_sem, *]⟩, ⟨.inr HP.out, J.out.2⟩⟩
              case measure => rw [d1]; simp [go_sem, intOf, *]; omega
          · obtain rfl : t = L := by omega
            obtain rfl : t = Lo := HLO.out t m1 m3 J.out.1 J.out.2
            have HPq := Lib.hid p
            clear p
            go_wp2_with fail
            refine bodyPost_ret (v := .tuple #[.agg #[.int .i64 t, .int .i64 hi], .bool true]) (by simp [results, Tryz.results22, go_sem, *]) rfl ⟨rfl, ?_⟩
            have Bq := HPq.out
            (repeat (first | with_reducible exact Below.refl _ _ | with_reducible assumption | with_reducible refine Below.alloc ?_ (by first | (simp; done) | (simp; omega) | omega) _ | with_reducible refine Below.setCell ?_ (by first | (simp; done) | (simp; omega) | omega) _ | with_reducible refine Below.drew ?_ | with_reducible refine below_drewN ?_ _))
end Go.Proofs.YtnfoagcpgegldaaGreat
