/- Helpers: CheckTrack and the checks of tracks and of times as closures. -/
import Derived.Test.YtolondcbllkimaaC2
import Derived.Test.YtolondcbllkimaaD
import Derived.IntWalk
import Derived.Deep.RegionWith
import Derived.Deep.RegionHeld3
namespace Go.Proofs.Ytolondcbllkimaa
open Go.RowKit Go.Shelf Go.Sort
attribute [local go_sem] idx3_0 idx3_1 idx3_2 old1 fro1 old2 fro2 old3 fro3 old4 fro4 old5 fro5 old6 fro6 old7 fro7 old8 fro8 old9 fro9 old10 fro10 old11 fro11 old12 fro12
set_option maxRecDepth 100000 in
set_option maxHeartbeats 400000 in
theorem lastTime_any (b off n c : Nat) (d t : Int) (w : World) (hn : 0 < n) (hn2 : n ≤ 100) (h : w.cell? ⟨b, off + (n - 1) * 4, none⟩ = some (.int .i64 t)) :
    Calls Try.prog 76 #[.agg #[.slice (some ⟨b, off, none⟩) n c, .int .i64 d]] w fun e w' => e = .returned (.int .i64 t) ∧ ∃ o1, w' = w.alloc o1 := by
  go_enter Try.func76, Try.ntmps76
  go_wp2
  go_ret
  exact ⟨rfl, _, rfl⟩
set_option maxRecDepth 100000 in
set_option maxHeartbeats 400000 in
theorem firstTime_any (b off n c : Nat) (d t : Int) (w : World) (hn : 0 < n) (_ : n ≤ 100) (h : w.cell? ⟨b, off, none⟩ = some (.int .i64 t)) :
    Calls Try.prog 90 #[.agg #[.slice (some ⟨b, off, none⟩) n c, .int .i64 d]] w fun e w' => e = .returned (.int .i64 t) ∧ ∃ o1, w' = w.alloc o1 := by
  go_enter Try.func90, Try.ntmps90
  go_wp2
  go_ret
  exact ⟨rfl, _, rfl⟩
/-- The first knot that has an error, from a knot on: its index and the error; or none. -/
def ctFrom (k : Nat → Knot) : Nat → Nat → Option (Nat × Int)
  | _, 0 => none
  | i, n + 1 => if knotErr k i = 0 then ctFrom k (i + 1) n else some (i, knotErr k i)
def ctRes (k : Nat → Knot) (n : Nat) (d : Int) : Int × Int :=
  if n = 0 then (0, 10) else if 12 < n then (0, 8) else match ctFrom k 0 n with
  | some (i, e) => ((i : Int), e)
  | none => if wi d 0 1000 then (0, 0) else (0, 2)
def KA (w : World) (A : Option Addr) (n : Nat) (k : Nat → Knot) : Prop := 0 < n → ∃ b off, A = some ⟨b, off, none⟩ ∧ KAt w b off n k
theorem knotErr_ok {k : Nat → Knot} {i : Nat} (h : knotErr k i = 0) : (k i).ok := by
  unfold knotErr at h
  by_cases hok : (k i).ok
  · exact hok
  · rw [if_pos hok] at h; cases h
set_option maxRecDepth 100000 in
set_option maxHeartbeats 400000 in
theorem checkTrack_0 (A : Option Addr) (c : Nat) (d : Int) (w : World) :
    Calls Try.prog 11 #[.agg #[.slice A 0 c, .int .i64 d]] w fun e w' => e = .returned (.tuple #[.int .i64 0, .int .i64 10]) ∧ Below w.heap.size w w' := by
  go_enter Try.func11, Try.ntmps11
  go_wp2
  go_ret2
  exact ⟨rfl, by (repeat (first | with_reducible exact Below.refl _ _ | with_reducible assumption | with_reducible refine Below.alloc ?_ (by first | (simp; done) | (simp; omega) | omega) _ | with_reducible refine Below.setCell ?_ (by first | (simp; done) | (simp; omega) | omega) _ | with_reducible refine Below.drew ?_ | with_reducible refine below_drewN ?_ _))⟩
set_option maxRecDepth 100000 in
set_option maxHeartbeats 400000 in
theorem checkTrack_l (A : Option Addr) (n c : Nat) (d : Int) (w : World) (h : 12 < n) (hn : n ≤ 9223372036854775807) :
    Calls Try.prog 11 #[.agg #[.slice A n c, .int .i64 d]] w fun e w' => e = .returned (.tuple #[.int .i64 0, .int .i64 8]) ∧ Below w.heap.size w w' := by
  have hz : ((n : Int) == 0) = false := by simp; omega
  go_enter Try.func11, Try.ntmps11
  go_wp2
  go_ret2
  exact ⟨rfl, by (repeat (first | with_reducible exact Below.refl _ _ | with_reducible assumption | with_reducible refine Below.alloc ?_ (by first | (simp; done) | (simp; omega) | omega) _ | with_reducible refine Below.setCell ?_ (by first | (simp; done) | (simp; omega) | omega) _ | with_reducible refine Below.drew ?_ | with_reducible refine below_drewN ?_ _))⟩
set_option maxRecDepth 100000 in
set_option maxHeartbeats 800000 in
theorem checkTrack_m (b off n c : Nat) (d : Int) (w : World) (k : Nat → Knot) (h0 : 0 < n) (h : n ≤ 12) (hk : KAt w b off n k) :
    Calls Try.prog 11 #[.agg #[.slice (some ⟨b, off, none⟩) n c, .int .i64 d]] w fun e w' => e = .returned (.tuple #[.int .i64 (ctRes k n d).1, .int .i64 (ctRes k n d).2]) ∧ Below w.heap.size w w' := by
  have hz : ((n : Int) == 0) = false := by simp; omega
  have HK := Lib.hid hk
  have hb := hk.1
  clear hk
  go_enter Try.func11, Try.ntmps11
  go_wp2_with fail
  go_loopw [17] (fun i wr => ∃ j : Nat, j ≤ n ∧ i = .int .i64 j ∧ Below w.heap.size w wr ∧ w.heap.size < wr.heap.size ∧ wr.cell? ⟨w.heap.size, 0, none⟩ = some (.slice (some ⟨b, off, none⟩) n c) ∧ wr.cell? ⟨w.heap.size, 1, none⟩ = some (.int .i64 d) ∧
    Hid (∀ q, q < j → knotErr k q = 0) ∧ Hid (ctFrom k 0 n = ctFrom k j (n - j))) (fun i _ => n - (intOf i).toNat)
  case atStart => exact ⟨0, Nat.zero_le _, rfl, by (repeat (first | with_reducible exact Below.refl _ _ | with_reducible assumption | with_reducible refine Below.alloc ?_ (by first | (simp; done) | (simp; omega) | omega) _ | with_reducible refine Below.setCell ?_ (by first | (simp; done) | (simp; omega) | omega) _ | with_reducible refine Below.drew ?_ | with_reducible refine below_drewN ?_ _)), by simp, by simp [go_sem], by simp [go_sem], fun q hq => absurd hq (Nat.not_lt_zero _), rfl⟩
  case round =>
    obtain ⟨j, hj, rfl, hbel, hsz, p0, p1, H, H2⟩ := hrel
    have HS : j < n → Hid (ctFrom k j (n - j) = if knotErr k j = 0 then ctFrom k (j + 1) (n - (j + 1)) else some (j, knotErr k j)) := by
      intro hlt
      rw [show n - j = (n - (j + 1)) + 1 from by omega]; rfl
    by_cases hlt : j < n
    · have HS := HS hlt
      have hcon := checkKnot_any b off n c j wr k hlt (by omega) (HK.out.below hbel hb) (fun h0 => knotErr_ok (H.out (j - 1) (by omega)))
      have hws := hbel.size
      have HB := Lib.hid hbel
      clear hbel
      by_cases hz0 : knotErr k j = 0
      · rw [hz0] at hcon
        have HZ := Lib.hid hz0
        have HC := Lib.hid hcon
        clear hz0 hcon
        go_wp2_with (go_at_call 44; refine HC.out.mono ?_; rintro e w1 ⟨rfl, hb1⟩)
        go_roundw
        case rel => exact ⟨j + 1, by omega, by go_num, HB.out.trans (hb1.mono hws), Nat.lt_of_lt_of_le hsz hb1.size, (hb1.cell (p := ⟨w.heap.size, 0, none⟩) hsz).trans p0, (hb1.cell (p := ⟨w.heap.size, 1, none⟩) hsz).trans p1, fun q hq => (by
          rcases Nat.lt_or_eq_of_le (Nat.le_of_lt_succ hq) with h | h
          · exact H.out q h
          · rw [h]; exact HZ.out), (by show ctFrom k 0 n = _; rw [H2.out, HS.out, if_pos HZ.out])⟩
        case measure => simp [intOf]; omega
      · have HZ := Lib.hid hz0
        have hq : (knotErr k j != 0) = true := by simpa using hz0
        have HC := Lib.hid hcon
        clear hz0 hcon
        have hv : ctRes k n d = ((j : Int), knotErr k j) := by
          unfold ctRes
          rw [if_neg (by omega), if_neg (by omega), H2.out, HS.out, if_neg HZ.out]
        have HV := Lib.hid hv
        clear hv
        generalize knotErr k j = ek at hq HC HV
        go_wp2_with (go_at_call 44; refine HC.out.mono ?_; rintro e w1 ⟨rfl, hb1⟩)
        go_ret2
        exact ⟨by rw [HV.out]; rfl, HB.out.trans (hb1.mono hws)⟩
    · obtain rfl : j = n := by omega
      clear HS
      have HB := Lib.hid hbel
      clear hbel
      have hv : ctRes k j d = if wi d 0 1000 then (0, 0) else (0, 2) := by
        unfold ctRes
        rw [if_neg (by omega), if_neg (by omega), H2.out, Nat.sub_self]; rfl
      have HV := Lib.hid hv
      clear hv
      cases hd : wi d 0 1000
      all_goals
        rw [hd] at HV
        go_wp2_with (go_at_call 45; refine (within_any _ _ _ _).mono ?_; rintro e w' ⟨rfl, rfl⟩)
        go_ret2
        exact ⟨by rw [HV.out]; rfl, HB.out⟩
theorem checkTrack_any (A : Option Addr) (n c : Nat) (d : Int) (w : World) (k : Nat → Knot) (hn : n ≤ 9223372036854775807) (hk : KA w A n k) :
    Calls Try.prog 11 #[.agg #[.slice A n c, .int .i64 d]] w fun e w' => e = .returned (.tuple #[.int .i64 (ctRes k n d).1, .int .i64 (ctRes k n d).2]) ∧ Below w.heap.size w w' := by
  by_cases h0 : n = 0
  · subst h0
    exact checkTrack_0 A c d w
  · by_cases h12 : 12 < n
    · have e : ctRes k n d = (0, 8) := by unfold ctRes; rw [if_neg h0, if_pos h12]
      rw [e]
      exact checkTrack_l A n c d w h12 hn
    · obtain ⟨b, off, rfl, hk2⟩ := hk (by omega)
      exact checkTrack_m b off n c d w k (by omega) (by omega) hk2
def ctErr (k : Nat → Knot) (n : Nat) (d : Int) : Int := (ctRes k n d).2
/-! ### the checks as closures -/
set_option maxRecDepth 100000 in
set_option maxHeartbeats 400000 in
theorem trackCheck1_any (A : Option Addr) (n c bp : Nat) (d : Int) (w : World) (k : Nat → Knot) (hn : n ≤ 9223372036854775807) (hk : KA w A n k)
    (p0 : w.cell? ⟨bp, 0, none⟩ = some (.slice A n c)) (p1 : w.cell? ⟨bp, 1, none⟩ = some (.int .i64 d)) :
    Calls Try.prog 86 #[.pointer (some ⟨bp, 0, none⟩)] w fun e w' => e = .returned (.int .i64 (ctErr k n d)) ∧ Below w.heap.size w w' := by
  have HC := Lib.hid (checkTrack_any A n c d w k hn hk)
  have HE : Hid (ctErr k n d = (ctRes k n d).2) := rfl
  clear hk
  generalize (ctRes k n d).2 = e2 at HC HE
  generalize (ctRes k n d).1 = e1 at HC
  go_enter Try.func86, Try.ntmps86
  go_wp2_with (go_at_call 11; refine HC.out.mono ?_; rintro e w1 ⟨rfl, hb1⟩)
  go_ret
  exact ⟨ret_int HE.out.symm, hb1⟩
set_option maxRecDepth 100000 in
set_option maxHeartbeats 400000 in
theorem trackCheck_any (A : Option Addr) (n c : Nat) (d : Int) (w : World) :
    Calls Try.prog 47 #[.agg #[.slice A n c, .int .i64 d]] w fun e w' => e = .returned (.func (.func 86) #[] #[.pointer (some ⟨w.heap.size, 0, none⟩)]) ∧
      w' = w.alloc (.cells #[.slice A n c, .int .i64 d] 24) := by
  go_enter Try.func47, Try.ntmps47
  go_wp2
  go_ret
  exact ⟨rfl, rfl⟩
def outside (time : Int) (k : Nat → Knot) (n : Nat) : Bool := !wi time (k 0).t (k (n - 1)).t
set_option maxRecDepth 100000 in
set_option maxHeartbeats 400000 in
theorem timeIn_any (b off n c bt : Nat) (d time : Int) (w : World) (k : Nat → Knot) (hn : 0 < n) (hn2 : n ≤ 100) (hk : KAt w b off n k) (ht : w.cell? ⟨bt, 0, none⟩ = some (.int .i64 time)) :
    Calls Try.prog 89 #[.agg #[.slice (some ⟨b, off, none⟩) n c, .int .i64 d], .pointer (some ⟨bt, 0, none⟩)] w fun e w' => e = .returned (.bool (outside time k n)) ∧ Below w.heap.size w w' := by
  obtain ⟨hb, hkk⟩ := hk
  have c1 := (hkk 0 hn).1
  have c2 := (hkk (n - 1) (by omega)).1
  rw [show off + 0 * 4 = off by omega] at c1
  clear hkk
  unfold outside
  generalize (k 0).t = t0 at c1 ⊢
  generalize (k (n - 1)).t = t1 at c2 ⊢
  go_enter Try.func89, Try.ntmps89
  go_wp2_with fail
  go_region_held3 (fun w' => w'.cell? ⟨bt, 0, none⟩ = some (.int .i64 time) ∧ w'.cell? ⟨w.heap.size, 0, none⟩ = some (.slice (some ⟨b, off, none⟩) n c) ∧ w'.cell? ⟨w.heap.size, 1, none⟩ = some (.int .i64 d)) (simp [go_sem, *])
    (first | (go_at_call 90; go_must (refine (firstTime_any b off n c d t0 _ hn hn2 (by simp [go_sem, *])).mono ?_); rintro e w2 ⟨rfl, o3, rfl⟩) | (go_at_call 76; refine (lastTime_any b off n c d t1 _ hn hn2 (by simp [go_sem, *])).mono ?_; rintro e w2 ⟨rfl, o3, rfl⟩) | (go_at_call 45; (with_reducible refine (within_any _ _ _ _).mono ?_); rintro e w' ⟨rfl, rfl⟩))
  all_goals
    go_wp2
    go_ret
    exact ⟨rfl, by (repeat (first | with_reducible exact Below.refl _ _ | with_reducible assumption | with_reducible refine Below.alloc ?_ (by first | (simp; done) | (simp; omega) | omega) _ | with_reducible refine Below.setCell ?_ (by first | (simp; done) | (simp; omega) | omega) _ | with_reducible refine Below.drew ?_ | with_reducible refine below_drewN ?_ _))⟩
set_option maxRecDepth 100000 in
set_option maxHeartbeats 400000 in
theorem indexFunc_track (g : Nat) (cb : Array Value) (n c : Nat) (b off : Nat) (sv : Nat → Value) (sd : Nat → Int) (p : Nat → Bool) (w : World) (eg : ∀ args w, (callFunc g args).run Try.prog w = .ok (.enter g args) w) (hn : n ≤ 1000000)
    (hb : b < w.heap.size) (hv : ∀ i, i < n → ∃ A q r, sv i = .slice A q r) (hc : ∀ i, i < n → w.cell? ⟨b, off + i * 2, none⟩ = some (sv i) ∧ w.cell? ⟨b, off + i * 2 + 1, none⟩ = some (.int .i64 (sd i)))
    (hf : ∀ (i : Nat) (w1 : World), i < n → Below w.heap.size w w1 → Calls Try.prog g (#[.agg #[sv i, .int .i64 (sd i)]] ++ cb) w1 fun e w' => e = .returned (.bool (p i)) ∧ Below w1.heap.size w1 w') :
    Calls Try.prog 122 #[.slice (some ⟨b, off, none⟩) n c, .func (.func g) #[] cb] w fun e w' => e = .returned (.int .i64 (fidx p n)) ∧ Below w.heap.size w w' := by
  have HF := Lib.hid hf
  have HV := Lib.hid hv
  clear hv
  have HC := Lib.hid hc
  clear hf hc
  go_enter Try.func122, Try.ntmps122
  go_wp2
  go_loopw [8] (fun i wr => ∃ k : Nat, k ≤ n ∧ i = .int .i64 k ∧ Below w.heap.size w wr ∧ Hid (∀ j, j < k → p j = false)) (fun i _ => n - (intOf i).toNat)
  case atStart => exact ⟨0, Nat.zero_le _, rfl, Below.refl _ _, fun j hj => absurd hj (Nat.not_lt_zero _)⟩
  case round =>
    obtain ⟨k, hk, rfl, hbel, H⟩ := hrel
    by_cases hlt : k < n
    · obtain ⟨e1, e2⟩ := HC.out k hlt
      rw [← hbel.cell (p := ⟨b, off + k * 2, none⟩) hb] at e1
      rw [← hbel.cell (p := ⟨b, off + k * 2 + 1, none⟩) hb] at e2
      have hcon := HF.out k wr hlt hbel
      obtain ⟨A, q, r, hs⟩ := HV.out k hlt
      rw [hs] at e1 hcon
      clear hs
      have hsz := hbel.size
      have HB := Lib.hid hbel
      clear hbel
      cases hp : p k <;> rw [hp] at hcon <;> have HP := Lib.hid hp <;> clear hp
      · go_wp2_with (go_at_fn g; refine hcon.mono ?_; rintro e w1 ⟨rfl, hb1⟩)
        go_roundw
        case rel => exact ⟨k + 1, by omega, by go_num, HB.out.trans (hb1.mono hsz), fun j hj => (by
          rcases Nat.lt_or_eq_of_le (Nat.le_of_lt_succ hj) with h | h
          · exact H.out j h
          · rw [h]; exact HP.out)⟩
        case measure => simp [intOf]; omega
      · go_wp2_with (go_at_fn g; refine hcon.mono ?_; rintro e w1 ⟨rfl, hb1⟩)
        go_ret
        exact ⟨ret_int (fidx_hit hlt HP.out H.out).symm, HB.out.trans (hb1.mono hsz)⟩
    · obtain rfl : k = n := by omega
      have HB := Lib.hid hbel
      clear hbel
      go_wp2
      go_ret
      exact ⟨ret_int (fidx_miss H.out).symm, HB.out⟩
set_option maxRecDepth 100000 in
set_option maxHeartbeats 400000 in
theorem containsFunc_track (g : Nat) (cb : Array Value) (n c : Nat) (b off : Nat) (sv : Nat → Value) (sd : Nat → Int) (p : Nat → Bool) (w : World) (eg : ∀ args w, (callFunc g args).run Try.prog w = .ok (.enter g args) w) (hn : n ≤ 1000000)
    (hb : b < w.heap.size) (hv : ∀ i, i < n → ∃ A q r, sv i = .slice A q r) (hc : ∀ i, i < n → w.cell? ⟨b, off + i * 2, none⟩ = some (sv i) ∧ w.cell? ⟨b, off + i * 2 + 1, none⟩ = some (.int .i64 (sd i)))
    (hf : ∀ (i : Nat) (w1 : World), i < n → Below w.heap.size w w1 → Calls Try.prog g (#[.agg #[sv i, .int .i64 (sd i)]] ++ cb) w1 fun e w' => e = .returned (.bool (p i)) ∧ Below w1.heap.size w1 w') :
    Calls Try.prog 88 #[.slice (some ⟨b, off, none⟩) n c, .func (.func g) #[] cb] w fun e w' => e = .returned (.bool ((List.range n).any p)) ∧ Below w.heap.size w w' := by
  have HC := Lib.hid (indexFunc_track g cb n c b off sv sd p w eg hn hb hv hc hf)
  clear hf hc eg hv
  generalize hr : fidx p n = r at HC
  have HR := Lib.hid hr
  clear hr
  go_enter Try.func88, Try.ntmps88
  go_wp2_with (go_at_call 122; refine HC.out.mono ?_; rintro e w1 ⟨rfl, hb1⟩)
  go_ret
  exact ⟨ret_bool (by rw [← fidx_nn, HR.out]), hb1⟩
/-- A track in memory: the slice of its knots, and its doubt. -/
structure Trk where
  b : Nat
  off : Nat
  n : Nat
  c : Nat
  k : Nat → Knot
  d : Int
def Trk.v (t : Trk) : Value := .slice (some ⟨t.b, t.off, none⟩) t.n t.c
def Trk.At (t : Trk) (w : World) : Prop := 0 < t.n ∧ t.n ≤ 100 ∧ KAt w t.b t.off t.n t.k
theorem Trk.At.below {t : Trk} {w w' : World} (h : t.At w) (hb : Below w.heap.size w w') : t.At w' := ⟨h.1, h.2.1, h.2.2.below hb h.2.2.1⟩
set_option maxRecDepth 100000 in
set_option maxHeartbeats 400000 in
theorem timeCheck1_any (m tb bs bt : Nat) (T : Nat → Trk) (time : Int) (w : World) (hm : m ≤ 100) (hs : w.cell? ⟨bs, 0, none⟩ = some (.slice (some ⟨tb, 0, none⟩) m m)) (ht : w.cell? ⟨bt, 0, none⟩ = some (.int .i64 time)) (htb : tb < w.heap.size) (hbt : bt < w.heap.size)
    (hc : ∀ i, i < m → w.cell? ⟨tb, 0 + i * 2, none⟩ = some (T i).v ∧ w.cell? ⟨tb, 0 + i * 2 + 1, none⟩ = some (.int .i64 (T i).d)) (hT : ∀ i, i < m → (T i).At w) :
    Calls Try.prog 87 #[.pointer (some ⟨bs, 0, none⟩), .pointer (some ⟨bt, 0, none⟩)] w fun e w' => e = .returned (.bool (!(List.range m).any fun i => outside time (T i).k (T i).n)) ∧ Below w.heap.size w w' := by
  have HC := Lib.hid (containsFunc_track 89 #[.pointer (some ⟨bt, 0, none⟩)] m m tb 0 (fun i => (T i).v) (fun i => (T i).d) (fun i => outside time (T i).k (T i).n) w (enters_of Try.func89 (by kernel_rfl) rfl) (by omega) htb (fun i _ => ⟨_, _, _, rfl⟩) hc
    (fun i w1 hi hb => timeIn_any (T i).b (T i).off (T i).n (T i).c bt (T i).d time w1 (T i).k (hT i hi).1 (hT i hi).2.1 ((hT i hi).below hb).2.2 ((hb.cell (p := ⟨bt, 0, none⟩) hbt).trans ht)))
  clear hc hT
  generalize (List.range m).any (fun i => outside time (T i).k (T i).n) = r at HC ⊢
  go_enter Try.func87, Try.ntmps87
  go_wp2_with (go_at_call 88; refine HC.out.mono ?_; rintro e w1 ⟨rfl, hb1⟩)
  go_ret
  exact ⟨rfl, hb1⟩
set_option maxRecDepth 100000 in
set_option maxHeartbeats 400000 in
theorem timeCheck_any (time : Int) (sv : Value) (S : Option Addr) (q r : Nat) (hs : sv = .slice S q r) (w : World) :
    Calls Try.prog 48 #[.int .i64 time, sv] w fun e w' => e = .returned (.func (.func 105) #[] #[.pointer (some ⟨w.heap.size + 1 + 1 + 1, 0, none⟩), .pointer (some ⟨w.heap.size + 1 + 1, 0, none⟩)]) ∧
      w' = ((((w.alloc (.cells #[.int .i64 time] 3)).alloc (.cells #[sv] 130)).alloc (.cells #[.int .i64 2] 27)).alloc (.cells #[.func (.func 87) #[] #[.pointer (some ⟨w.heap.size + 1, 0, none⟩), .pointer (some ⟨w.heap.size, 0, none⟩)]] 25)) := by
  subst hs
  go_enter Try.func48, Try.ntmps48
  go_wp2_with (go_at_call 59; refine (require_any _ _ _ _).mono ?_; rintro e w1 ⟨rfl, rfl⟩)
  go_ret
  exact ⟨rfl, rfl⟩
end Go.Proofs.Ytolondcbllkimaa
