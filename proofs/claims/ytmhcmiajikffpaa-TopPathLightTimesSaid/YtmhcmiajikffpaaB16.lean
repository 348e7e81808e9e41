/- Helpers: the document's own answers on motions (distances, remainders, copies, errors). -/
import Derived.Test.YtmhcmiajikffpaaB04
import Derived.Test.YtmhcmiajikffpaaB02
import Derived.Test.YtmhcmiajikffpaaB05
import Derived.Test.YtmhcmiajikffpaaB15
import Derived.Test.YtmhcmiajikffpaaB07
import Derived.Test.YtmhcmiajikffpaaB14
namespace Go.Proofs.Ytmhcmiajikffpaa
open Go.RowKit Go.Shelf Go.Sort
attribute [local go_sem] idx3_0 idx3_1 idx3_2 old1 fro1 old2 fro2 old3 fro3 old4 fro4 old5 fro5 old6 fro6 old7 fro7 old8 fro8 old9 fro9 old10 fro10 old11 fro11 old12 fro12
set_option maxRecDepth 100000 in
set_option maxHeartbeats 400000 in
theorem bwithin_any (x lo hi : Int) (w : World) :
    Calls Try.prog 13 #[.int .i64 x, .int .i64 lo, .int .i64 hi] w fun e w' => e = .returned (.bool (wi x lo hi)) ∧ w = w' := by
  by_cases h : lo ≤ x
  · go_enter Try.func13, Try.ntmps13
    go_wp2
    go_ret
    exact ⟨by simp [wi, h], rfl⟩
  · go_enter Try.func13, Try.ntmps13
    go_wp2
    go_ret
    exact ⟨ret_bool (wi_f.2 (by omega)).symm, rfl⟩
set_option maxRecDepth 100000 in
set_option maxHeartbeats 400000 in
theorem bsize_any (x : Int) (h1 : -9223372036854775807 ≤ x) (h2 : x ≤ 9223372036854775807) (w : World) :
    Calls Try.prog 94 #[.int .i64 x] w fun e w' => e = .returned (.int .i64 (siz x)) ∧ w = w' := by
  go_enter Try.func94, Try.ntmps94
  go_wp2
  all_goals (go_ret; exact ⟨ret_int (by unfold siz; omega), rfl⟩)
theorem mod_parts (x t : Int) (h1 : 1 ≤ t) : (x.tmod t < 0 ∧ x.tmod t + t = x % t ∧ -t < x.tmod t) ∨ (0 ≤ x.tmod t ∧ x.tmod t = x % t ∧ x.tmod t < t) := by
  have e1 := Int.tdiv_mul_add_tmod x t
  have h3 := Int.emod_nonneg x (show t ≠ 0 by omega)
  have h4 := Int.emod_lt_of_pos x (show 0 < t by omega)
  rcases Int.lt_or_le (x.tmod t) 0 with h | h
  · left
    have h6 : -t < x.tmod t := Int.lt_tmod_of_pos x (by omega)
    refine ⟨h, ?_, h6⟩
    have h8 : x = x.tmod t + t + t * (x.tdiv t - 1) := by rw [Int.mul_sub, Int.mul_one, Int.mul_comm]; omega
    have h9 : x % t = (x.tmod t + t + t * (x.tdiv t - 1)) % t := by rw [← h8]
    rw [h9, Int.add_mul_emod_self_left, Int.emod_eq_of_lt (by omega) (by omega)]
  · right
    have h6 : x.tmod t < t := Int.tmod_lt_of_pos x (by omega)
    refine ⟨h, ?_, h6⟩
    have h8 : x = x.tmod t + t * x.tdiv t := by rw [Int.mul_comm]; omega
    have h9 : x % t = (x.tmod t + t * x.tdiv t) % t := by rw [← h8]
    rw [h9, Int.add_mul_emod_self_left, Int.emod_eq_of_lt (by omega) (by omega)]
theorem mod_zero (x t : Int) (h1 : 1 ≤ t) : (x % t == 0) = (x.tmod t == 0) := by
  rcases mod_parts x t h1 with ⟨a, b, c⟩ | ⟨a, b, c⟩
  · rw [← b]
    have e1 : (x.tmod t == 0) = false := by simp; omega
    have e2 : (x.tmod t + t == 0) = false := by simp; omega
    rw [e1, e2]
  · rw [b]
set_option maxRecDepth 100000 in
set_option maxHeartbeats 800000 in
theorem bmod_any (x t : Int) (h1 : 1 ≤ t) (h2 : t ≤ 1000000000) (_ : -1000000000 ≤ x) (_ : x ≤ 1000000000) (w : World) :
    Calls Try.prog 93 #[.int .i64 x, .int .i64 t] w fun e w' => e = .returned (.int .i64 (x % t)) ∧ w = w' := by
  have u2 : (t == 0) = false := by simp; omega
  have u3 : ¬ t = 0 := by omega
  rcases mod_parts x t h1 with ⟨a, b, c⟩ | ⟨a, b, c⟩
  · generalize x % t = q at *
    generalize hm : x.tmod t = m at *
    have hp : m < 0 := a
    have u1 : IntKind.i64.wrap m = m := IntWalk.i64_in _ (by omega)
    have u4 : IntKind.i64.wrap (m + t) = m + t := IntWalk.i64_in _ (by omega)
    go_enter Try.func93, Try.ntmps93
    go_wp2
    go_ret
    exact ⟨rfl, rfl⟩
  · generalize x % t = q at *
    generalize hm : x.tmod t = m at *
    have hp : ¬ m < 0 := by omega
    have u1 : IntKind.i64.wrap m = m := IntWalk.i64_in _ (by omega)
    go_enter Try.func93, Try.ntmps93
    go_wp2
    go_ret
    exact ⟨rfl, rfl⟩
theorem addr_add (b o i : Nat) : ((⟨b, o, none⟩ : Addr).add i) = ⟨b, o + i, none⟩ := by simp [Addr.add]
def intsL (n : Nat) (xs : Nat → Int) : List Value := (List.range n).map fun i => .int .i64 (xs i)
theorem own_ints {w : World} {base e n : Nat} {v : Value} {xs : Nat → Int} (h : w.ownsRow base e 1 v n (intsL n xs)) : v = .slice (sA v) n (sC v) ∧ IA w (sA v) n xs := by
  obtain ⟨h1, h2⟩ := own_parts h
  refine ⟨h1, fun h0 => ?_⟩
  obtain ⟨h3, h4⟩ := h2 h0
  rw [h3] at h1
  rw [h1] at h
  refine ⟨sG v, 0, h3, fun i hi => ?_⟩
  have hc := h.cells (g := sG v) rfl i (.int .i64 (xs i)) (by simp [intsL, hi])
  rwa [addr_add] at hc
set_option maxRecDepth 100000 in
set_option maxHeartbeats 800000 in
theorem copyInts_some (a : Addr) (n c : Nat) (xs : Nat → Int) (w : World) (hn : n ≤ 1000000) (hA : IA w (some a) n xs) :
    Calls Try.prog 20 #[.slice (some a) n c] w fun e w' => ∃ A' c', e = .returned (.slice A' n c') ∧ IA w' A' n xs ∧ Below w.heap.size w w' := by
  obtain ⟨i0, hi0, hzz⟩ := Option.map_eq_some_iff.1 infoInt
  simp only [Prod.mk.injEq] at hzz
  obtain ⟨hz0, hz1, hz2⟩ := hzz
  have hnews : ∀ j u, (intsL n xs)[j]? = some u → w.cell? (a.add j) = some u := by
    intro j u hu
    have hj : j < n := by
      have := (List.getElem?_eq_some_iff.1 hu).1
      simpa [intsL] using this
    obtain ⟨b, o, e, hc⟩ := hA (by omega)
    obtain rfl : a = ⟨b, o, none⟩ := by simpa using e
    rw [addr_add, hc j hj]
    simpa [intsL, hj] using hu
  have HN := Lib.hid hnews
  have HA := Lib.hid hA
  clear hnews hA
  go_enter Try.func20, Try.ntmps20
  go_wp2_with (first
    | (at_builtin; go_loud (refine wpList_append_own_at _ rfl _ _ 48 rfl w.heap.size 3 i0 _ 1 8 undInts hi0 hz0 hz1 hz2 rfl (by decide) _ 0 [] rfl (World.ownsRow_made w #[] 0 (Nat.le_refl _) (by unfold maxLen; omega) rfl) a n c (intsL n xs) rfl (by simp [intsL]) (fun j u hu => (World.cell?_alloc_some w _ _ (by rw [HN.out j u hu]; rfl)).trans (HN.out j u hu)) (by simp [intsL, Value.oneCell']) (by unfold maxLen; omega) (by omega) (by simp) ?_; intro v' w5 hown' hgrow hnil hloc; obtain ⟨hv', hA'⟩ := own_ints (xs := xs) (by simpa using hown'); have HB5 : Below w.heap.size w w5 := ((Below.refl w.heap.size w).alloc (Nat.le_refl _) _).grown hgrow (by first | (simp; done) | (simp; omega) | omega) (fun k h => by cases h; exact Nat.le_refl _); have HA5 := Lib.hid hA'; rw [hv']; clear hown' hgrow hnil hloc hv' hA'))
    | fail)
  go_ret
  exact ⟨_, _, rfl, HA5.out, HB5⟩
set_option maxRecDepth 100000 in
set_option maxHeartbeats 800000 in
theorem copyInts_nil (w : World) :
    Calls Try.prog 20 #[.slice none 0 0] w fun e w' => ∃ A' c', e = .returned (.slice A' 0 c') ∧ Below w.heap.size w w' := by
  go_enter Try.func20, Try.ntmps20
  go_wp2_with fail
  go_ret
  exact ⟨_, _, rfl, by (repeat (first | with_reducible exact Below.refl _ _ | with_reducible assumption | with_reducible refine Below.alloc ?_ (by first | (simp; done) | (simp; omega) | omega) _ | with_reducible refine Below.setCell ?_ (by first | (simp; done) | (simp; omega) | omega) _ | with_reducible refine Below.drew ?_ | with_reducible refine below_drewN ?_ _))⟩
set_option maxRecDepth 100000 in
set_option maxHeartbeats 2000000 in
theorem rdriveErr_any (t lo hi st ra : Int) (w : World) :
    Calls Try.prog 22 #[.agg #[.int .i64 t, .int .i64 lo, .int .i64 hi, .int .i64 st, .int .i64 ra]] w fun e w' => e = .returned (.int .i64 (driveErr t lo hi st ra)) ∧ Below w.heap.size w w' := by
  go_enter Try.func22, Try.ntmps22
  go_wp2_with (first | (go_at_call 13; (with_reducible refine (bwithin_any _ _ _ _).mono ?_); rintro e w' ⟨rfl, rfl⟩))
  all_goals
    go_ret
    refine ⟨ret_int ?_, by (repeat (first | with_reducible exact Below.refl _ _ | with_reducible assumption | with_reducible refine Below.alloc ?_ (by first | (simp; done) | (simp; omega) | omega) _ | with_reducible refine Below.setCell ?_ (by first | (simp; done) | (simp; omega) | omega) _ | with_reducible refine Below.drew ?_ | with_reducible refine below_drewN ?_ _))⟩
    unfold driveErr dr1
    by_cases hq : lo ≤ hi
    · first
        | omega
        | (simp_all; done)
    · have hq2 : decide (lo ≤ hi) = false := by simp; omega
      rw [hq2]
      first
        | omega
        | (simp_all; done)
theorem tg_hit {t : Int} {xs : Nat → Int} {n k : Nat} (hk : k < n) (h : wi (xs k) 0 (t - 1) = false) : ((List.range n).any fun i => !wi (xs i) 0 (t - 1)) = true := List.any_eq_true.2 ⟨k, List.mem_range.2 hk, by simp [h]⟩
theorem tg_miss {t : Int} {xs : Nat → Int} {n : Nat} (h : ∀ i, i < n → wi (xs i) 0 (t - 1) = true) : ((List.range n).any fun i => !wi (xs i) 0 (t - 1)) = false := List.any_eq_false.2 fun i hi => by simp [h i (List.mem_range.1 hi)]
set_option maxRecDepth 100000 in
set_option maxHeartbeats 2000000 in
theorem rtargetsErr_any (t lo hi st ra : Int) (A : Option Addr) (n c : Nat) (xs : Nat → Int) (w : World) (hn : n ≤ 1000000) (t1 : 1 ≤ t) (t2 : t ≤ 3600) (hA : IA w A n xs) :
    Calls Try.prog 23 #[.agg #[.int .i64 t, .int .i64 lo, .int .i64 hi, .int .i64 st, .int .i64 ra], .slice A n c] w fun e w' => e = .returned (.int .i64 (tgErr n xs t)) ∧ Below w.heap.size w w' := by
  have u1 : IntKind.i64.wrap (t - 1) = t - 1 := IntWalk.i64_in _ (by omega)
  have HA := Lib.hid hA
  clear hA
  by_cases h40 : n ≤ 40
  · have p0 : ¬ (n : Int) > 40 := by omega
    go_enter Try.func23, Try.ntmps23
    go_wp2_with fail
    go_loopw [5] (fun i wr => ∃ k : Nat, k ≤ n ∧ i = .int .i64 k ∧ Below w.heap.size w wr ∧ wr.cell? ⟨w.heap.size, 0, none⟩ = some (.int .i64 t) ∧ w.heap.size < wr.heap.size ∧ Hid (∀ j, j < k → wi (xs j) 0 (t - 1) = true)) (fun i _ => n - (intOf i).toNat)
    case atStart => exact ⟨0, Nat.zero_le _, rfl, by (repeat (first | with_reducible exact Below.refl _ _ | with_reducible assumption | with_reducible refine Below.alloc ?_ (by first | (simp; done) | (simp; omega) | omega) _ | with_reducible refine Below.setCell ?_ (by first | (simp; done) | (simp; omega) | omega) _ | with_reducible refine Below.drew ?_ | with_reducible refine below_drewN ?_ _)), by simp [go_sem], by simp, fun j hj => absurd hj (Nat.not_lt_zero _)⟩
    case round =>
      obtain ⟨k, hk, rfl, hbel, d0, hws, H⟩ := hrel
      by_cases hlt : k < n
      · obtain ⟨b1, o1, rfl, hc1⟩ := HA.out (by omega)
        have q1 := keep hbel (hc1 k hlt)
        have hb1 := lt_of (hc1 k hlt)
        have p1 : (0 : Int) ≤ (k : Int) := by omega
        have p2 : (k : Int) < (n : Int) := by omega
        have HL := Lib.hid hlt
        clear hc1
        cases hw : wi (xs k) 0 (t - 1)
        · have HW := Lib.hid hw
          go_wp2_with fail
          go_region_held3 (fun w' => w'.cell? ⟨b1, o1 + k, none⟩ = some (.int .i64 (xs k)) ∧ w'.cell? ⟨w.heap.size, 0, none⟩ = some (.int .i64 t)) (simp [go_sem, *]) (first | (go_at_call 13; ((with_reducible refine (bwithin_any _ _ _ _).mono ?_); rintro e w1 ⟨rfl, rfl⟩)))
          all_goals
            go_wp2
            go_ret
            refine ⟨ret_int ?_, by (repeat (first | with_reducible exact Below.refl _ _ | with_reducible assumption | with_reducible refine Below.alloc ?_ (by first | (simp; done) | (simp; omega) | omega) _ | with_reducible refine Below.setCell ?_ (by first | (simp; done) | (simp; omega) | omega) _ | with_reducible refine Below.drew ?_ | with_reducible refine below_drewN ?_ _))⟩
            unfold tgErr
            rw [tg_hit HL.out HW.out]
            simp
            omega
        · have HW := Lib.hid hw
          go_wp2_with fail
          go_region_held3 (fun w' => w'.cell? ⟨b1, o1 + k, none⟩ = some (.int .i64 (xs k)) ∧ w'.cell? ⟨w.heap.size, 0, none⟩ = some (.int .i64 t)) (simp [go_sem, *]) (first | (go_at_call 13; ((with_reducible refine (bwithin_any _ _ _ _).mono ?_); rintro e w1 ⟨rfl, rfl⟩)))
          all_goals
            go_wp2
            go_roundw
            case rel => exact ⟨k + 1, by omega, by go_num, by (repeat (first | with_reducible exact Below.refl _ _ | with_reducible assumption | with_reducible refine Below.alloc ?_ (by first | (simp; done) | (simp; omega) | omega) _ | with_reducible refine Below.setCell ?_ (by first | (simp; done) | (simp; omega) | omega) _ | with_reducible refine Below.drew ?_ | with_reducible refine below_drewN ?_ _)), by simp [go_sem, *], hws, fun j hj => (by
              rcases Nat.lt_succ_iff_lt_or_eq.1 hj with h | h
              · exact H.out j h
              · rw [h]; exact HW.out)⟩
            case measure => simp [intOf]; omega
      · obtain rfl : k = n := by omega
        go_wp2
        go_ret
        refine ⟨ret_int ?_, hbel⟩
        unfold tgErr
        rw [tg_miss H.out]
        simp
        omega
  · have p0 : (n : Int) > 40 := by omega
    go_enter Try.func23, Try.ntmps23
    go_wp2_with fail
    go_ret
    exact ⟨ret_int (by unfold tgErr; simp; omega), by (repeat (first | with_reducible exact Below.refl _ _ | with_reducible assumption | with_reducible refine Below.alloc ?_ (by first | (simp; done) | (simp; omega) | omega) _ | with_reducible refine Below.setCell ?_ (by first | (simp; done) | (simp; omega) | omega) _ | with_reducible refine Below.drew ?_ | with_reducible refine below_drewN ?_ _))⟩
end Go.Proofs.Ytmhcmiajikffpaa
namespace Go.Proofs.Ytmhcmiajikffpaa
open Go.RowKit Go.Shelf Go.Sort
attribute [local go_sem] idx3_0 idx3_1 idx3_2 old1 fro1 old2 fro2 old3 fro3 old4 fro4 old5 fro5 old6 fro6 old7 fro7 old8 fro8 old9 fro9 old10 fro10 old11 fro11 old12 fro12
set_option maxRecDepth 100000 in
set_option maxHeartbeats 400000 in
theorem btick_any (x : Int) (w : World) : Calls Try.prog 95 #[.int .i64 x] w fun e w' => e = .returned (.bool (wi x 0 1000000000000)) ∧ w = w' := by
  go_enter Try.func95, Try.ntmps95
  go_wp2_with (go_at_call 13; (with_reducible refine (bwithin_any _ _ _ _).mono ?_); rintro e w' ⟨rfl, rfl⟩)
  go_ret
  exact ⟨rfl, rfl⟩
set_option maxRecDepth 100000 in
set_option maxHeartbeats 800000 in
theorem bminus_any (x y z x0 y0 z0 : Int) (a1 : -1000000 ≤ x) (a2 : x ≤ 1000000) (a3 : -1000000 ≤ y) (a4 : y ≤ 1000000) (a5 : -1000000 ≤ z) (a6 : z ≤ 1000000) (b1 : -1000000 ≤ x0) (b2 : x0 ≤ 1000000) (b3 : -1000000 ≤ y0) (b4 : y0 ≤ 1000000) (b5 : -1000000 ≤ z0) (b6 : z0 ≤ 1000000) (w : World) :
    Calls Try.prog 97 #[.agg #[.int .i64 x, .int .i64 y, .int .i64 z], .agg #[.int .i64 x0, .int .i64 y0, .int .i64 z0]] w fun e w' => e = .returned (.agg #[.int .i64 (x - x0), .int .i64 (y - y0), .int .i64 (z - z0)]) ∧ Below w.heap.size w w' := by
  have u1 : IntKind.i64.wrap (x - x0) = x - x0 := IntWalk.i64_in _ (by omega)
  have u2 : IntKind.i64.wrap (y - y0) = y - y0 := IntWalk.i64_in _ (by omega)
  have u3 : IntKind.i64.wrap (z - z0) = z - z0 := IntWalk.i64_in _ (by omega)
  go_enter Try.func97, Try.ntmps97
  go_wp2_with fail
  refine bodyPost_ret (v := .agg #[.int .i64 (x - x0), .int .i64 (y - y0), .int .i64 (z - z0)]) (by simp [results, Try.results97, go_sem]) rfl ⟨rfl, by (repeat (first | with_reducible exact Below.refl _ _ | with_reducible assumption | with_reducible refine Below.alloc ?_ (by first | (simp; done) | (simp; omega) | omega) _ | with_reducible refine Below.setCell ?_ (by first | (simp; done) | (simp; omega) | omega) _ | with_reducible refine Below.drew ?_ | with_reducible refine below_drewN ?_ _))⟩
def sq3 (x y z : Int) : Int := x * x + y * y + z * z
theorem sq3_bd {x y z : Int} (a1 : -2000000 ≤ x) (a2 : x ≤ 2000000) (a3 : -2000000 ≤ y) (a4 : y ≤ 2000000) (a5 : -2000000 ≤ z) (a6 : z ≤ 2000000) : (0 ≤ x * x ∧ x * x ≤ 4000000000000) ∧ (0 ≤ y * y ∧ y * y ≤ 4000000000000) ∧ (0 ≤ z * z ∧ z * z ≤ 4000000000000) :=
  ⟨⟨sq_nn x, by have := sq_bd a1 a2; omega⟩, ⟨sq_nn y, by have := sq_bd a3 a4; omega⟩, ⟨sq_nn z, by have := sq_bd a5 a6; omega⟩⟩
set_option maxRecDepth 100000 in
set_option maxHeartbeats 800000 in
theorem bdot_any (x y z : Int) (a1 : -2000000 ≤ x) (a2 : x ≤ 2000000) (a3 : -2000000 ≤ y) (a4 : y ≤ 2000000) (a5 : -2000000 ≤ z) (a6 : z ≤ 2000000) (w : World) :
    Calls Try.prog 105 #[.agg #[.int .i64 x, .int .i64 y, .int .i64 z], .agg #[.int .i64 x, .int .i64 y, .int .i64 z]] w fun e w' => e = .returned (.int .i64 (sq3 x y z)) ∧ Below w.heap.size w w' := by
  obtain ⟨⟨p1, p2⟩, ⟨p3, p4⟩, ⟨p5, p6⟩⟩ := sq3_bd a1 a2 a3 a4 a5 a6
  have u1 : IntKind.i64.wrap (x * x) = x * x := IntWalk.i64_in _ (by omega)
  have u2 : IntKind.i64.wrap (y * y) = y * y := IntWalk.i64_in _ (by omega)
  have u3 : IntKind.i64.wrap (z * z) = z * z := IntWalk.i64_in _ (by omega)
  have u4 : IntKind.i64.wrap (x * x + y * y) = x * x + y * y := IntWalk.i64_in _ (by omega)
  have u5 : IntKind.i64.wrap (x * x + y * y + z * z) = x * x + y * y + z * z := IntWalk.i64_in _ (by omega)
  clear p1 p2 p3 p4 p5 p6
  go_enter Try.func105, Try.ntmps105
  go_wp2_with fail
  go_ret
  exact ⟨rfl, by (repeat (first | with_reducible exact Below.refl _ _ | with_reducible assumption | with_reducible refine Below.alloc ?_ (by first | (simp; done) | (simp; omega) | omega) _ | with_reducible refine Below.setCell ?_ (by first | (simp; done) | (simp; omega) | omega) _ | with_reducible refine Below.drew ?_ | with_reducible refine below_drewN ?_ _))⟩
set_option maxRecDepth 100000 in
set_option maxHeartbeats 800000 in
theorem bsquare_any (x y z : Int) (a1 : -2000000 ≤ x) (a2 : x ≤ 2000000) (a3 : -2000000 ≤ y) (a4 : y ≤ 2000000) (a5 : -2000000 ≤ z) (a6 : z ≤ 2000000) (w : World) :
    Calls Try.prog 96 #[.agg #[.int .i64 x, .int .i64 y, .int .i64 z]] w fun e w' => e = .returned (.int .i64 (sq3 x y z)) ∧ Below w.heap.size w w' := by
  go_enter Try.func96, Try.ntmps96
  go_wp2_with (go_at_call 105; (with_reducible refine Calls.mono (bdot_any x y z a1 a2 a3 a4 a5 a6 _) ?_); rintro e w1 ⟨rfl, hb1⟩; have B1 := thenB (show Below w.heap.size w _ by (repeat (first | with_reducible exact Below.refl _ _ | with_reducible assumption | with_reducible refine Below.alloc ?_ (by first | (simp; done) | (simp; omega) | omega) _ | with_reducible refine Below.setCell ?_ (by first | (simp; done) | (simp; omega) | omega) _ | with_reducible refine Below.drew ?_ | with_reducible refine below_drewN ?_ _))) hb1)
  go_ret
  exact ⟨rfl, B1⟩
theorem psum_sq3 (x y z x0 y0 z0 : Int) : psum x y z x0 y0 z0 3 = 4 * sq3 (x - x0) (y - y0) (z - z0) := by
  simp only [psum, sq3, show (0 : Int) < 3 by decide, show (1 : Int) < 3 by decide, show (2 : Int) < 3 by decide, if_true]
  generalize x - x0 = a
  generalize y - y0 = b
  generalize z - z0 = c
  rw [show 2 * a * (2 * a) = 4 * (a * a) by rw [Int.mul_assoc, Int.mul_left_comm a 2 a, ← Int.mul_assoc]; rfl, show 2 * b * (2 * b) = 4 * (b * b) by rw [Int.mul_assoc, Int.mul_left_comm b 2 b, ← Int.mul_assoc]; rfl, show 2 * c * (2 * c) = 4 * (c * c) by rw [Int.mul_assoc, Int.mul_left_comm c 2 c, ← Int.mul_assoc]; rfl]
  omega
end Go.Proofs.Ytmhcmiajikffpaa
namespace Go.Proofs.Ytmhcmiajikffpaa
open Go.RowKit Go.Shelf Go.Sort
/-- A coordinate on its piece: over the piece's length. -/
def lin (a b ta tb t : Int) : Int := a * (tb - t) + b * (t - ta)
theorem lin_step (a b ta tb t : Int) : lin a b ta tb (t + 1) - lin a b ta tb t = b - a := by
  unfold lin
  rw [show tb - (t + 1) = (tb - t) - 1 by omega, show t + 1 - ta = (t - ta) + 1 by omega, Int.mul_sub, Int.mul_add]
  omega
/-- Where a track is at two successive times, by its piece. -/
theorem piece {k : Nat → Knot} {n : Nat} {d r : Int} (hv : ctErr k n d = 0) (h1 : outside r k n = false) (h2 : outside (r + 1) k n = false) :
    ∃ m, m < n ∧ 0 < m ∧ 0 < (k m).t - (k (m - 1)).t ∧ psum (k m).x (k m).y (k m).z (k (m - 1)).x (k (m - 1)).y (k (m - 1)).z 3 ≤ ((k m).t - (k (m - 1)).t) * ((k m).t - (k (m - 1)).t) ∧
      (∀ t, (t = r ∨ t = r + 1) → (plc k n t).x * ((k m).t - (k (m - 1)).t) = (plc k n t).n * lin (k (m - 1)).x (k m).x (k (m - 1)).t (k m).t t ∧ (plc k n t).y * ((k m).t - (k (m - 1)).t) = (plc k n t).n * lin (k (m - 1)).y (k m).y (k (m - 1)).t (k m).t t ∧ (plc k n t).z * ((k m).t - (k (m - 1)).t) = (plc k n t).n * lin (k (m - 1)).z (k m).z (k (m - 1)).t (k m).t t) := by
  obtain ⟨hn, hn2, hkk, hd⟩ := valid_of hv
  obtain ⟨a1, a2, a3, a4⟩ := mIdx_spec hn h1
  obtain ⟨b1, b2, b3, b4⟩ := mIdx_spec hn h2
  have h0 : 0 < mIdx k n (r + 1) := by
    rcases Nat.eq_zero_or_pos (mIdx k n (r + 1)) with z | z
    · rw [z] at b2; omega
    · exact z
  obtain ⟨s1, s2, s3⟩ := knot_step (hkk _ b1) h0
  refine ⟨mIdx k n (r + 1), b1, h0, s1, s3, ?_⟩
  have key : ∀ a b ta tb t : Int, t = tb → b * (tb - ta) = 1 * lin a b ta tb t := by
    intro a b ta tb t h; subst h; unfold lin; rw [Int.sub_self, Int.mul_zero]; omega
  have key2 : ∀ a b ta tb t : Int, t = ta → a * (tb - ta) = 1 * lin a b ta tb t := by
    intro a b ta tb t h; subst h; unfold lin; rw [Int.sub_self, Int.mul_zero]; omega
  have key3 : ∀ a b ta tb t : Int, (a * (tb - t) + b * (t - ta)) * (tb - ta) = (tb - ta) * lin a b ta tb t := by
    intro a b ta tb t; unfold lin; rw [Int.mul_comm]
  rintro t (rfl | rfl)
  · -- the earlier time
    have c1 := b3 (mIdx k n (t + 1) - 1) (by omega)
    generalize hm : mIdx k n (t + 1) = m at *
    by_cases e : (k (m - 1)).t = t
    · have hi : mIdx k n t = m - 1 := by
        rcases Nat.lt_trichotomy (mIdx k n t) (m - 1) with z | z | z
        · have := b3 (mIdx k n t) (by omega)
          have hl : (k (mIdx k n t)).t < (k (m - 1)).t := by
            have : ∀ j, mIdx k n t ≤ j → j ≤ m - 1 → (k (mIdx k n t)).t ≤ (k j).t ∧ (mIdx k n t < j → (k (mIdx k n t)).t < (k j).t) := by
              intro j
              induction j with
              | zero => intro q1 q2; have : mIdx k n t = 0 := (by omega); rw [this]; exact ⟨Int.le_refl _, fun h => by omega⟩
              | succ j ih =>
                intro q1 q2
                by_cases q : mIdx k n t = j + 1
                · rw [q]; exact ⟨Int.le_refl _, fun h => by omega⟩
                · have i1 := (ih (by omega) (by omega)).1
                  have i2 := (knot_step (hkk (j + 1) (by omega)) (by omega)).1
                  rw [Nat.add_sub_cancel] at i2
                  exact ⟨by omega, fun _ => by omega⟩
            exact (this (m - 1) (by omega) (Nat.le_refl _)).2 z
          omega
        · exact z
        · have := a3 (m - 1) z
          omega
      have hp : plc k n t = ⟨(k (m - 1)).x, (k (m - 1)).y, (k (m - 1)).z, 1⟩ := by
        unfold plc
        simp only [hi]
        rw [if_pos e]
      rw [hp]
      exact ⟨key2 _ _ _ _ _ e.symm, key2 _ _ _ _ _ e.symm, key2 _ _ _ _ _ e.symm⟩
    · have hi : mIdx k n t = m := by
        rcases Nat.lt_trichotomy (mIdx k n t) m with z | z | z
        · have hl : ∀ j, mIdx k n t ≤ j → j ≤ m - 1 → (k (mIdx k n t)).t ≤ (k j).t := by
            intro j
            induction j with
            | zero => intro q1 q2; have : mIdx k n t = 0 := (by omega); rw [this]; exact Int.le_refl _
            | succ j ih =>
              intro q1 q2
              by_cases q : mIdx k n t = j + 1
              · rw [q]; exact Int.le_refl _
              · have i1 := ih (by omega) (by omega)
                have i2 := (knot_step (hkk (j + 1) (by omega)) (by omega)).1
                rw [Nat.add_sub_cancel] at i2
                omega
          have := hl (m - 1) (by omega) (Nat.le_refl _)
          omega
        · exact z
        · have := a3 m z
          omega
      have hne : (k m).t ≠ t := by omega
      have hp : plc k n t = ⟨(k (m - 1)).x * ((k m).t - t) + (k m).x * (t - (k (m - 1)).t), (k (m - 1)).y * ((k m).t - t) + (k m).y * (t - (k (m - 1)).t), (k (m - 1)).z * ((k m).t - t) + (k m).z * (t - (k (m - 1)).t), (k m).t - (k (m - 1)).t⟩ := by
        unfold plc
        simp only [hi]
        rw [if_neg hne]
      rw [hp]
      exact ⟨key3 _ _ _ _ _, key3 _ _ _ _ _, key3 _ _ _ _ _⟩
  · generalize hm : mIdx k n (r + 1) = m at *
    by_cases e : (k m).t = r + 1
    · have hp : plc k n (r + 1) = ⟨(k m).x, (k m).y, (k m).z, 1⟩ := by
        unfold plc
        simp only [hm]
        rw [if_pos e]
      rw [hp]
      exact ⟨key _ _ _ _ _ e.symm, key _ _ _ _ _ e.symm, key _ _ _ _ _ e.symm⟩
    · have hp : plc k n (r + 1) = ⟨(k (m - 1)).x * ((k m).t - (r + 1)) + (k m).x * ((r + 1) - (k (m - 1)).t), (k (m - 1)).y * ((k m).t - (r + 1)) + (k m).y * ((r + 1) - (k (m - 1)).t), (k (m - 1)).z * ((k m).t - (r + 1)) + (k m).z * ((r + 1) - (k (m - 1)).t), (k m).t - (k (m - 1)).t⟩ := by
        unfold plc
        simp only [hm]
        rw [if_neg e]
      rw [hp]
      exact ⟨key3 _ _ _ _ _, key3 _ _ _ _ _, key3 _ _ _ _ _⟩
/-- In one tick a track moves at most half a distance. -/
def Near (g h : Plc) : Prop := 4 * ((h.x * g.n - g.x * h.n) * (h.x * g.n - g.x * h.n) + (h.y * g.n - g.y * h.n) * (h.y * g.n - g.y * h.n) + (h.z * g.n - g.z * h.n) * (h.z * g.n - g.z * h.n)) ≤ g.n * h.n * (g.n * h.n)
theorem Near.symm {g h : Plc} (q : Near g h) : Near h g := by
  unfold Near at q ⊢
  have e : ∀ a b : Int, (a - b) * (a - b) = (b - a) * (b - a) := fun a b => by rw [← Int.neg_sub b a, Int.neg_mul_neg]
  rw [e (g.x * h.n), e (g.y * h.n), e (g.z * h.n), Int.mul_comm h.n g.n]
  exact q
theorem near_of {k : Nat → Knot} {n : Nat} {d r : Int} (hv : ctErr k n d = 0) (h1 : outside r k n = false) (h2 : outside (r + 1) k n = false) : Near (plc k n r) (plc k n (r + 1)) := by
  obtain ⟨m, m1, m2, s1, s2, hp⟩ := piece hv h1 h2
  obtain ⟨gx, gy, gz⟩ := hp r (.inl rfl)
  obtain ⟨hx, hy, hz⟩ := hp (r + 1) (.inr rfl)
  generalize (k m).t - (k (m - 1)).t = L at *
  generalize plc k n r = g at *
  generalize plc k n (r + 1) = h at *
  rw [psum_sq3] at s2
  unfold sq3 at s2
  have key : ∀ (u v p q D : Int), u * L = h.n * p → v * L = g.n * q → p - q = D → (u * g.n - v * h.n) * L = g.n * h.n * D := by
    intro u v p q D e1 e2 e3
    rw [Int.sub_mul, Int.mul_right_comm, e1, Int.mul_right_comm v, e2, ← e3, Int.mul_sub, Int.mul_right_comm h.n, Int.mul_comm h.n g.n, Int.mul_right_comm g.n q]
  have x1 := key _ _ _ _ _ hx gx (lin_step _ _ _ _ _)
  have y1 := key _ _ _ _ _ hy gy (lin_step _ _ _ _ _)
  have z1 := key _ _ _ _ _ hz gz (lin_step _ _ _ _ _)
  have sq : ∀ {a b : Int}, a * L = b → a * a * (L * L) = b * b := by
    intro a b e
    rw [← e]; simp only [Int.mul_assoc, Int.mul_left_comm]
  have x2 := sq x1
  have y2 := sq y1
  have z2 := sq z1
  have pp : ∀ (N D : Int), N * D * (N * D) = N * N * (D * D) := fun N D => by simp only [Int.mul_assoc, Int.mul_left_comm]
  rw [pp] at x2 y2 z2
  unfold Near
  refine Int.le_of_mul_le_mul_right ?_ (show 0 < L * L from Int.mul_pos s1 s1)
  have s3 := Int.mul_le_mul_of_nonneg_left s2 (sq_nn (g.n * h.n))
  rw [Int.mul_assoc 4, Int.add_mul, Int.add_mul, x2, y2, z2, ← Int.mul_add, ← Int.mul_add, ← Int.mul_left_comm]
  exact s3
/-- What both nearest and farthest parts keep. -/
def Lip (q : Int → Int → Int) : Prop := (∀ x d, 0 ≤ d → 0 ≤ q x d) ∧ ∀ x d x' d' a b e : Int, 0 ≤ a → 0 ≤ b → siz (x' * a - x * b) ≤ e → d' * a = d * b → 0 ≤ d → q x' d' * a ≤ q x d * b + e
theorem siz_mul_nn (x a : Int) (h : 0 ≤ a) : siz x * a = siz (x * a) := by
  unfold siz
  rw [Int.natAbs_mul]
  have : (a.natAbs : Int) = a := by omega
  rw [Int.natCast_mul, this]
theorem lip_fr : Lip fr := ⟨fun x d h => fr_nn h, fun x d x' d' a b e ha hb he hd h0 => by
  unfold fr
  rw [Int.add_mul, Int.add_mul, siz_mul_nn _ _ ha, siz_mul_nn _ _ hb, hd]
  generalize d * b = D at *
  generalize x' * a = X' at *
  generalize x * b = X at *
  unfold siz at *
  omega⟩
theorem lip_nr : Lip nr := ⟨fun x d _ => nr_nn x d, fun x d x' d' a b e ha hb he hd h0 => by
  have m : ∀ u v : Int, 0 ≤ v → max 0 u * v = max 0 (u * v) := by
    intro u v hv
    rcases Int.le_total 0 u with z | z
    · rw [Int.max_eq_right z, Int.max_eq_right (Int.mul_nonneg z hv)]
    · rw [Int.max_eq_left z, Int.max_eq_left (Int.mul_nonpos_of_nonpos_of_nonneg z hv), Int.zero_mul]
  unfold nr
  rw [m _ _ ha, m _ _ hb, Int.sub_mul, Int.sub_mul, siz_mul_nn _ _ ha, siz_mul_nn _ _ hb, hd]
  generalize d * b = D at *
  generalize x' * a = X' at *
  generalize x * b = X at *
  unfold siz at *
  omega⟩
/-- One tick later (or earlier) a distance is at most half a distance greater. -/
theorem tick {q : Int → Int → Int} (hq : Lip q) {f g h : Plc} {da db T : Int} (hf : 1 ≤ f.n) (hg : 1 ≤ g.n) (hh : 1 ≤ h.n) (a0 : 0 ≤ da) (b0 : 0 ≤ db) (hT : 0 ≤ T) (hn : Near g h)
    (h0 : nsum q (vx f g) (vy f g) (vz f g) (vd da db f g) 3 ≤ T * vn f g * (T * vn f g)) : nsum q (vx f h) (vy f h) (vz f h) (vd da db f h) 3 ≤ (T + 1) * vn f h * ((T + 1) * vn f h) := by
  have hd : 0 ≤ vd da db f g := Int.mul_nonneg (by omega) (Int.mul_nonneg (by omega) (by omega))
  have hd' : 0 ≤ vd da db f h := Int.mul_nonneg (by omega) (Int.mul_nonneg (by omega) (by omega))
  have hde : vd da db f h * g.n = vd da db f g * h.n := by unfold vd; simp only [Int.mul_left_comm, Int.mul_comm]
  have step : ∀ u v w : Int, q (h.n * 0 + (w * f.n - u * h.n)) (vd da db f h) * g.n ≤ q (v * f.n - u * g.n) (vd da db f g) * h.n + siz (w * g.n - v * h.n) * f.n := by
    intro u v w
    refine hq.2 _ _ _ _ _ _ _ (by omega) (by omega) ?_ hde hd
    rw [siz_mul_nn _ _ (by omega)]
    have e : (h.n * 0 + (w * f.n - u * h.n)) * g.n - (v * f.n - u * g.n) * h.n = (w * g.n - v * h.n) * f.n := by
      simp only [Int.mul_zero, Int.zero_add, Int.mul_sub, Int.mul_left_comm, Int.mul_comm]
      omega
    rw [e]
    exact Int.le_refl _
  have sx := step f.x g.x h.x
  have sy := step f.y g.y h.y
  have sz := step f.z g.z h.z
  rw [Int.mul_zero, Int.zero_add] at sx sy sz
  change q (vx f h) _ * g.n ≤ q (vx f g) _ * h.n + _ at sx
  change q (vy f h) _ * g.n ≤ q (vy f g) _ * h.n + _ at sy
  change q (vz f h) _ * g.n ≤ q (vz f g) _ * h.n + _ at sz
  have nx := hq.1 (vx f h) _ hd'
  have ny := hq.1 (vy f h) _ hd'
  have nz := hq.1 (vz f h) _ hd'
  rw [nsum3] at h0 ⊢
  have sq := siz_sq
  unfold Near at hn
  rw [← sq (h.x * g.n - g.x * h.n), ← sq (h.y * g.n - g.y * h.n), ← sq (h.z * g.n - g.z * h.n)] at hn
  have px := siz_nn (h.x * g.n - g.x * h.n)
  have py := siz_nn (h.y * g.n - g.y * h.n)
  have pz := siz_nn (h.z * g.n - g.z * h.n)
  have mx := hq.1 (vx f g) _ hd
  have my := hq.1 (vy f g) _ hd
  have mz := hq.1 (vz f g) _ hd
  generalize siz (h.x * g.n - g.x * h.n) = dx at *
  generalize siz (h.y * g.n - g.y * h.n) = dy at *
  generalize siz (h.z * g.n - g.z * h.n) = dz at *
  generalize q (vx f g) (vd da db f g) = ux at *
  generalize q (vy f g) (vd da db f g) = uy at *
  generalize q (vz f g) (vd da db f g) = uz at *
  generalize q (vx f h) (vd da db f h) = tx at *
  generalize q (vy f h) (vd da db f h) = ty at *
  generalize q (vz f h) (vd da db f h) = tz at *
  unfold vn at h0 ⊢
  have hN : 0 < f.n * g.n * h.n := Int.mul_pos (Int.mul_pos (by omega) (by omega)) (by omega)
  -- twice the first vector, times h.n
  have sc : ∀ (u v w S k : Int), u * u + v * v + w * w ≤ S * S → (u * k) * (u * k) + (v * k) * (v * k) + (w * k) * (w * k) ≤ (S * k) * (S * k) := by
    intro u v w S k hh
    have := Int.mul_le_mul_of_nonneg_right hh (sq_nn k)
    have e : ∀ r : Int, (r * k) * (r * k) = r * r * (k * k) := fun r => by simp only [Int.mul_left_comm, Int.mul_comm]
    rw [e, e, e, e, ← Int.add_mul, ← Int.add_mul]
    exact this
  have A1 := sc _ _ _ _ (2 * h.n) h0
  have B0 : (2 * dx) * (2 * dx) + (2 * dy) * (2 * dy) + (2 * dz) * (2 * dz) ≤ (g.n * h.n) * (g.n * h.n) := by
    have e : ∀ r : Int, (2 * r) * (2 * r) = 4 * (r * r) := fun r => by rw [Int.mul_assoc, Int.mul_left_comm r 2 r, ← Int.mul_assoc]; rfl
    rw [e, e, e]; omega
  have B1 := sc _ _ _ _ f.n B0
  have t := triangle _ _ _ _ _ _ _ _ (Int.mul_nonneg (Int.mul_nonneg hT (Int.mul_nonneg (by omega) (by omega))) (by omega)) (Int.mul_nonneg (Int.mul_nonneg (by omega) (by omega)) (by omega)) A1 B1
  have eN : T * (f.n * g.n) * (2 * h.n) + g.n * h.n * f.n = (2 * T + 1) * (f.n * g.n * h.n) := by
    rw [Int.add_mul, Int.one_mul]
    congr 1 <;> simp only [Int.mul_assoc, Int.mul_left_comm, Int.mul_comm]
  rw [eN] at t
  have up : ∀ (a b c : Int), 0 ≤ a → a * g.n ≤ b * h.n + c * f.n → (2 * a * g.n) * (2 * a * g.n) ≤ (b * (2 * h.n) + 2 * c * f.n) * (b * (2 * h.n) + 2 * c * f.n) := by
    intro a b c ha hle
    refine sq_le (Int.mul_nonneg (by omega) (by omega)) ?_
    have e1 : 2 * a * g.n = 2 * (a * g.n) := Int.mul_assoc _ _ _
    have e2 : b * (2 * h.n) = 2 * (b * h.n) := Int.mul_left_comm _ _ _
    have e3 : 2 * c * f.n = 2 * (c * f.n) := Int.mul_assoc _ _ _
    omega
  have ux' := up _ _ _ nx sx
  have uy' := up _ _ _ ny sy
  have uz' := up _ _ _ nz sz
  have big : (2 * T + 1) * (f.n * g.n * h.n) * ((2 * T + 1) * (f.n * g.n * h.n)) ≤ 2 * (T + 1) * (f.n * g.n * h.n) * (2 * (T + 1) * (f.n * g.n * h.n)) :=
    sq_le (Int.mul_nonneg (by omega) (by omega)) (Int.mul_le_mul_of_nonneg_right (by omega) (by omega))
  have fin : (2 * tx * g.n) * (2 * tx * g.n) + (2 * ty * g.n) * (2 * ty * g.n) + (2 * tz * g.n) * (2 * tz * g.n) ≤ 2 * (T + 1) * (f.n * g.n * h.n) * (2 * (T + 1) * (f.n * g.n * h.n)) := by omega
  have pos : 0 < (2 * g.n) * (2 * g.n) := Int.mul_pos (by omega) (by omega)
  refine Int.le_of_mul_le_mul_right ?_ pos
  have e1 : ∀ r : Int, (2 * r * g.n) * (2 * r * g.n) = r * r * ((2 * g.n) * (2 * g.n)) := fun r => by simp only [Int.mul_assoc, Int.mul_left_comm, Int.mul_comm]
  have e2 : 2 * (T + 1) * (f.n * g.n * h.n) * (2 * (T + 1) * (f.n * g.n * h.n)) = (T + 1) * (f.n * h.n) * ((T + 1) * (f.n * h.n)) * ((2 * g.n) * (2 * g.n)) := by simp only [Int.mul_assoc, Int.mul_left_comm, Int.mul_comm]
  rw [e1, e1, e1, e2, ← Int.add_mul, ← Int.add_mul] at fin
  exact fin
theorem nsum_swap {q : Int → Int → Int} (hq : ∀ x d, q (-x) d = q x d) (f g : Plc) (da db : Int) : nsum q (vx g f) (vy g f) (vz g f) (vd db da g f) 3 = nsum q (vx f g) (vy f g) (vz f g) (vd da db f g) 3 := by
  rw [nsum3, nsum3, vd_comm, vx_neg, vy_neg, vz_neg, hq, hq, hq]
/-- The same with the first place a tick earlier. -/
theorem tick' {q : Int → Int → Int} (hq : Lip q) (hs : ∀ x d, q (-x) d = q x d) {f g h : Plc} {da db T : Int} (hf : 1 ≤ f.n) (hg : 1 ≤ g.n) (hh : 1 ≤ h.n) (a0 : 0 ≤ da) (b0 : 0 ≤ db) (hT : 0 ≤ T) (hn : Near f h)
    (h0 : nsum q (vx f g) (vy f g) (vz f g) (vd da db f g) 3 ≤ T * vn f g * (T * vn f g)) : nsum q (vx h g) (vy h g) (vz h g) (vd da db h g) 3 ≤ (T + 1) * vn h g * ((T + 1) * vn h g) := by
  rw [← nsum_swap hs, vn_comm]
  rw [← nsum_swap hs, vn_comm] at h0
  exact tick hq hg hf hh b0 a0 hT hn h0
end Go.Proofs.Ytmhcmiajikffpaa
namespace Go.Proofs.Ytmhcmiajikffpaa
open Go.RowKit Go.Shelf Go.Sort
/-- A valid track's own time. -/
def TIn (A : Trk) (s : Int) : Prop := ctErr A.k A.n A.d = 0 ∧ outside s A.k A.n = false
theorem TIn.n1 {A : Trk} {s : Int} (h : TIn A s) : 1 ≤ (A.p s).n := (plc_ok h.1 h.2).1.1
theorem TIn.d0 {A : Trk} {s : Int} (h : TIn A s) : 0 ≤ A.d := (valid_of h.1).2.2.2.1
theorem TIn.mid {A : Trk} {s t r : Int} (h : TIn A s) (h2 : TIn A t) (h3 : s ≤ r) (h4 : r ≤ t) : TIn A r := ⟨h.1, by
  have a := wi_t.1 (show wi s (A.k 0).t (A.k (A.n - 1)).t = true by have := h.2; unfold outside at this; simpa using this)
  have b := wi_t.1 (show wi t (A.k 0).t (A.k (A.n - 1)).t = true by have := h2.2; unfold outside at this; simpa using this)
  unfold outside
  rw [wi_t.2 ⟨by omega, by omega⟩]; rfl⟩
theorem arr_iff (A B : Trk) (s r : Int) : arrB A B s r = true ↔ sqF A B s r ≤ (r - s) * vn (A.p s) (B.p r) * ((r - s) * vn (A.p s) (B.p r)) := by
  unfold arrB
  rw [Bool.not_eq_true', decide_eq_false_iff_not]
  omega
theorem away_iff (A B : Trk) (s r : Int) : awayB A B s r = false ↔ sqN A B s r ≤ (r - s) * vn (A.p s) (B.p r) * ((r - s) * vn (A.p s) (B.p r)) := by
  unfold awayB
  rw [decide_eq_false_iff_not]
  omega
theorem arr_step {A B : Trk} {s r : Int} (hA : TIn A s) (h1 : TIn B r) (h2 : TIn B (r + 1)) (hs : s ≤ r) (h : arrB A B s r = true) : arrB A B s (r + 1) = true := by
  rw [arr_iff] at h ⊢
  rw [show r + 1 - s = r - s + 1 by omega]
  exact tick lip_fr hA.n1 h1.n1 h2.n1 hA.d0 h1.d0 (by omega) (near_of h1.1 h1.2 h2.2) h
theorem away_step {A B : Trk} {s r : Int} (hA : TIn A s) (h1 : TIn B r) (h2 : TIn B (r + 1)) (hs : s ≤ r) (h : awayB A B s r = false) : awayB A B s (r + 1) = false := by
  rw [away_iff] at h ⊢
  rw [show r + 1 - s = r - s + 1 by omega]
  exact tick lip_nr hA.n1 h1.n1 h2.n1 hA.d0 h1.d0 (by omega) (near_of h1.1 h1.2 h2.2) h
theorem arr_back {A B : Trk} {s r : Int} (hB : TIn B r) (h1 : TIn A s) (h2 : TIn A (s + 1)) (hs : s + 1 ≤ r) (h : arrB A B (s + 1) r = true) : arrB A B s r = true := by
  rw [arr_iff] at h ⊢
  rw [show r - s = r - (s + 1) + 1 by omega]
  exact tick' lip_fr fr_neg h2.n1 hB.n1 h1.n1 h1.d0 hB.d0 (by omega) (near_of h1.1 h1.2 h2.2).symm h
theorem away_back {A B : Trk} {s r : Int} (hB : TIn B r) (h1 : TIn A s) (h2 : TIn A (s + 1)) (hs : s + 1 ≤ r) (h : awayB A B (s + 1) r = false) : awayB A B s r = false := by
  rw [away_iff] at h ⊢
  rw [show r - s = r - (s + 1) + 1 by omega]
  exact tick' lip_nr nr_neg h2.n1 hB.n1 h1.n1 h1.d0 hB.d0 (by omega) (near_of h1.1 h1.2 h2.2).symm h
theorem up_ind {P : Int → Prop} {a : Int} (h0 : P a) {b : Int} (hs : ∀ x, a ≤ x → x + 1 ≤ b → P x → P (x + 1)) (hab : a ≤ b) : P b := by
  have : ∀ n : Nat, a + n ≤ b → P (a + n) := by
    intro n
    induction n with
    | zero => intro _; simpa using h0
    | succ n ih =>
      intro hn
      have := hs (a + n) (by omega) (by omega) (ih (by omega))
      rwa [show a + ((n + 1 : Nat) : Int) = a + n + 1 by omega]
  have := this (b - a).toNat (by omega)
  rwa [show a + ((b - a).toNat : Int) = b by omega] at this
theorem arr_mono {A B : Trk} {s x y : Int} (hA : TIn A s) (hs : s ≤ x) (hx : TIn B x) (hy : TIn B y) (hxy : x ≤ y) (h : arrB A B s x = true) : arrB A B s y = true :=
  up_ind (P := fun z => arrB A B s z = true) h (fun z q1 q2 q => arr_step hA (hx.mid hy q1 (by omega)) (hx.mid hy (by omega) q2) (by omega) q) hxy
theorem away_mono {A B : Trk} {s x y : Int} (hA : TIn A s) (hs : s ≤ x) (hx : TIn B x) (hy : TIn B y) (hxy : x ≤ y) (h : awayB A B s x = false) : awayB A B s y = false :=
  up_ind (P := fun z => awayB A B s z = false) h (fun z q1 q2 q => away_step hA (hx.mid hy q1 (by omega)) (hx.mid hy (by omega) q2) (by omega) q) hxy
theorem arr_down {A B : Trk} {r x y : Int} (hB : TIn B r) (hr : y ≤ r) (hx : TIn A x) (hy : TIn A y) (hxy : x ≤ y) (h : arrB A B y r = true) : arrB A B x r = true := by
  rcases hc : arrB A B x r
  · have := up_ind (P := fun z => arrB A B z r = false) hc (fun z q1 q2 q => by
      cases hz : arrB A B (z + 1) r
      · rfl
      · have := arr_back hB (hx.mid hy q1 (by omega)) (hx.mid hy (by omega) q2) (by omega) hz
        rw [q] at this; cases this) hxy
    rw [this] at h; cases h
  · rfl
theorem away_down {A B : Trk} {r x y : Int} (hB : TIn B r) (hr : y ≤ r) (hx : TIn A x) (hy : TIn A y) (hxy : x ≤ y) (h : awayB A B y r = false) : awayB A B x r = false := by
  rcases hc : awayB A B x r
  · rfl
  · have := up_ind (P := fun z => awayB A B z r = true) hc (fun z q1 q2 q => by
      cases hz : awayB A B (z + 1) r
      · have := away_back hB (hx.mid hy q1 (by omega)) (hx.mid hy (by omega) q2) (by omega) hz
        rw [q] at this; cases this
      · rfl) hxy
    rw [this] at h; cases h
end Go.Proofs.Ytmhcmiajikffpaa
namespace Go.Proofs.Ytmhcmiajikffpaa
open Go.RowKit Go.Shelf Go.Sort
/-- The first number from lo on, of n ones, at which p holds; the one behind them if there is none. -/
def fstI (p : Int → Bool) : Int → Nat → Int
  | lo, 0 => lo
  | lo, n + 1 => if p lo then lo else fstI p (lo + 1) n
theorem fstI_RL (p : Int → Bool) : ∀ (n : Nat) (lo : Int), RL p lo (lo + n - 1) (fstI p lo n)
  | 0, lo => ⟨Int.le_refl _, by show lo ≤ _; omega, .inl rfl, .inl (by show lo = _; omega)⟩
  | n + 1, lo => by
    unfold fstI
    by_cases h : p lo = true
    · rw [if_pos h]
      exact ⟨Int.le_refl _, by omega, .inl rfl, .inr h⟩
    · rw [if_neg h]
      obtain ⟨a, b, c, d⟩ := fstI_RL p n (lo + 1)
      refine ⟨by omega, by omega, ?_, ?_⟩
      · rcases c with c | c
        · right; rw [c, Int.add_sub_cancel]; simpa using h
        · exact .inr c
      · rcases d with d | d
        · left; omega
        · exact .inr d
theorem RL_one {p : Int → Bool} {lo hi r r' : Int} (hm : ∀ x y, lo ≤ x → x ≤ y → y ≤ hi → p x = true → p y = true) (h : RL p lo hi r) (h' : RL p lo hi r') : r = r' := by
  obtain ⟨a1, a2, a3, a4⟩ := h
  obtain ⟨b1, b2, b3, b4⟩ := h'
  have key : ∀ x y, lo ≤ x → x < y → y ≤ hi + 1 → (y = lo ∨ p (y - 1) = false) → (x = hi + 1 ∨ p x = true) → False := by
    intro x y q0 q1 q2 q3 q4
    rcases q3 with z | z
    · omega
    · rcases q4 with u | u
      · omega
      · rw [hm x (y - 1) q0 (by omega) (by omega) u] at z; cases z
  rcases Int.lt_or_le r r' with q | q
  · exact (key r r' a1 q b2 b3 a4).elim
  · rcases Int.lt_or_le r' r with q' | q'
    · exact (key r' r b1 q' a2 a3 b4).elim
    · omega
def lastT (B : Trk) : Int := (B.k (B.n - 1)).t
def rcHi (A B : Trk) (s : Int) : Int := fstI (arrB A B s) s (lastT B + 1 - s).toNat
def rcPos (A B : Trk) (s : Int) : Int := fstI (fun r => !awayB A B s r) s (rcHi A B s + 1 - s).toNat
def rcLo (A B : Trk) (s : Int) : Int := max s (rcPos A B s - 1)
theorem TIn.last {B : Trk} {s : Int} (h : TIn B s) : s ≤ lastT B := (inside h.2).2
theorem TIn.first {B : Trk} {s : Int} (h : TIn B s) : (B.k 0).t ≤ s := (inside h.2).1
theorem TIn.to {B : Trk} {s r : Int} (h : TIn B s) (h1 : s ≤ r) (h2 : r ≤ lastT B) : TIn B r := ⟨h.1, inside_mk (by have := h.first; omega) h2⟩
theorem rcHi_RL {A B : Trk} {s : Int} (hB : TIn B s) : RL (arrB A B s) s (lastT B) (rcHi A B s) := by
  have := fstI_RL (arrB A B s) (lastT B + 1 - s).toNat s
  have h := hB.last
  rwa [show s + ((lastT B + 1 - s).toNat : Int) - 1 = lastT B by omega] at this
theorem hi_same {A B : Trk} {s r : Int} (hA : TIn A s) (hB : TIn B s) (h : RL (arrB A B s) s (lastT B) r) : r = rcHi A B s :=
  RL_one (fun _ _ q0 q1 q2 q => arr_mono hA q0 (hB.to q0 (by omega)) (hB.to (by omega) q2) q1 q) h (rcHi_RL hB)
theorem rcPos_RL {A B : Trk} {s : Int} (hB : TIn B s) : RL (fun r => !awayB A B s r) s (rcHi A B s) (rcPos A B s) := by
  have := fstI_RL (fun r => !awayB A B s r) (rcHi A B s + 1 - s).toNat s
  have h := (rcHi_RL (A := A) hB).1
  rwa [show s + ((rcHi A B s + 1 - s).toNat : Int) - 1 = rcHi A B s by omega] at this
theorem pos_same {A B : Trk} {s r : Int} (hA : TIn A s) (hB : TIn B s) (hl : rcHi A B s ≤ lastT B) (h : RL (fun r => !awayB A B s r) s (rcHi A B s) r) : r = rcPos A B s :=
  RL_one (fun x y q0 q1 q2 q => by
    rw [Bool.not_eq_true'] at q ⊢
    exact away_mono hA q0 (hB.to q0 (by omega)) (hB.to (by omega) (by omega)) q1 q) h (rcPos_RL hB)
theorem rc_bounds {A B : Trk} {s : Int} (hB : TIn B s) : s ≤ rcLo A B s ∧ rcLo A B s ≤ rcHi A B s := by
  have h1 := (rcHi_RL (A := A) hB).1
  have h2 := rcPos_RL (A := A) hB
  unfold rcLo
  have := h2.2.1
  omega
theorem lo_same {A B : Trk} {s L : Int} (hA : TIn A s) (hB : TIn B s) (hl : rcHi A B s ≤ lastT B) (h1 : s ≤ L) (h2 : L ≤ rcHi A B s) (h3 : L = s ∨ awayB A B s L = true) (h4 : L = rcHi A B s ∨ awayB A B s (L + 1) = false) : L = rcLo A B s := by
  unfold rcLo
  by_cases hw : awayB A B s L = true
  · have : L + 1 = rcPos A B s := pos_same hA hB hl ⟨by omega, by omega, .inr (by show (!awayB A B s (L + 1 - 1)) = false; rw [Int.add_sub_cancel, hw]; rfl), by
      rcases h4 with h | h
      · left; omega
      · right; show (!awayB A B s (L + 1)) = true; rw [h]; rfl⟩
    omega
  · have e : L = s := by
      rcases h3 with h | h
      · exact h
      · exact absurd h hw
    rw [e] at hw
    have : s = rcPos A B s := pos_same hA hB hl ⟨by omega, by omega, .inl rfl, .inr (by show (!awayB A B s s) = true; simpa using hw)⟩
    omega
theorem rc_none {A B : Trk} {s : Int} (hA : TIn A s) (hB : TIn B s) (h : arrB A B s (lastT B) = false) : lastT B < rcHi A B s := by
  obtain ⟨a, b, c, d⟩ := rcHi_RL (A := A) hB
  rcases d with d | d
  · omega
  · rcases Int.lt_or_le (lastT B) (rcHi A B s) with q | q
    · exact q
    · have := arr_mono hA a (hB.to a q) (hB.to hB.last (Int.le_refl _)) q d
      rw [h] at this; cases this
theorem rc_some {A B : Trk} {s : Int} (hB : TIn B s) (h : arrB A B s (lastT B) = true) : rcHi A B s ≤ lastT B := by
  obtain ⟨a, b, c, d⟩ := rcHi_RL (A := A) hB
  rcases c with c | c
  · have := hB.last; omega
  · rcases Int.lt_or_le (lastT B) (rcHi A B s) with q | q
    · rw [show rcHi A B s - 1 = lastT B by omega, h] at c; cases c
    · exact q
theorem rc_arr {A B : Trk} {s : Int} (hB : TIn B s) (h : rcHi A B s ≤ lastT B) : arrB A B s (rcHi A B s) = true := by
  obtain ⟨a, b, c, d⟩ := rcHi_RL (A := A) hB
  rcases d with d | d
  · omega
  · exact d
/-- A track's numbers alone. -/
def TV.t (A : TV) : Trk := ⟨0, 0, A.n, 0, A.k, A.d⟩
def rvE (A B : TV) (s : Int) : Int := if distErr A B s = 0 then (if lastT B.t < rcHi A.t B.t s then 12 else 0) else distErr A B s
def rvLo (A B : TV) (s : Int) : Int := if rvE A B s = 0 then rcLo A.t B.t s else 0
def rvHi (A B : TV) (s : Int) : Int := if rvE A B s = 0 then rcHi A.t B.t s else 0
theorem distErr_in {A B : TV} {s : Int} (h : distErr A B s = 0) : TIn A.t s ∧ TIn B.t s := by
  obtain ⟨a, b, c, d⟩ := distErr_0 h
  exact ⟨⟨a, c⟩, ⟨b, d⟩⟩
theorem same_arrN {A B A' B' : Trk} (hA : A.k = A'.k ∧ A.n = A'.n ∧ A.d = A'.d) (hB : B.k = B'.k ∧ B.n = B'.n ∧ B.d = B'.d) (s r : Int) : arrB A B s r = arrB A' B' s r ∧ awayB A B s r = awayB A' B' s r := by
  unfold arrB awayB sqF sqN Trk.p
  rw [hA.1, hA.2.1, hA.2.2, hB.1, hB.2.1, hB.2.2]
  exact ⟨rfl, rfl⟩
/-- The program's ReceivedAt, by these numbers. -/
theorem receivedAt_n (A B : TV) (s : Int) (w : World) (hA : A.At w) (hB : B.At w) :
    Calls Try.prog 30 #[.agg #[.slice A.a A.n A.c, .int .i64 A.d], .agg #[.slice B.a B.n B.c, .int .i64 B.d], .int .i64 s] w fun e w' => e = .returned (.tuple #[.agg #[.int .i64 (rvLo A B s), .int .i64 (rvHi A B s)], .int .i64 (rvE A B s)]) ∧ Below w.heap.size w w' := by
  refine (receivedAt_x A.a B.a A.n A.c B.n B.c A.k B.k A.d B.d s w hA hB).mono ?_
  rintro e w' ⟨hb, hh⟩
  refine ⟨?_, hb⟩
  change (if distErr A B s = 0 then _ else _) at hh
  by_cases hd : distErr A B s = 0
  · rw [if_pos hd] at hh
    obtain ⟨A', B', arr, hA', hB', h1, h2⟩ := hh
    obtain ⟨tA, tB⟩ := distErr_in hd
    have fa : arrB A' B' s = arrB A.t B.t s := funext fun r => (same_arrN (A' := A.t) (B' := B.t) hA' hB' s r).1
    have fw : (fun r => !awayB A' B' s r) = fun r => !awayB A.t B.t s r := funext fun r => by rw [(same_arrN (A' := A.t) (B' := B.t) hA' hB' s r).2]
    rw [fa] at h1
    have ea := hi_same tA tB h1
    have hl : (B.k (B.n - 1)).t = lastT B.t := rfl
    subst ea
    rcases h2 with ⟨q, rfl⟩ | ⟨q, pos, h3, rfl⟩
    · have e1 : rvE A B s = 12 := by unfold rvE; rw [if_pos hd, if_pos (by rw [← hl]; exact q)]
      unfold rvLo rvHi
      rw [e1, if_neg (by decide), if_neg (by decide)]
    · have e1 : rvE A B s = 0 := by unfold rvE; rw [if_pos hd, if_neg (by have q' : rcHi A.t B.t s ≤ lastT B.t := q; omega)]
      rw [fw] at h3
      have ep := pos_same tA tB (by rw [← hl]; exact q) h3
      subst ep
      unfold rvLo rvHi
      rw [e1, if_pos rfl, if_pos rfl]
      rfl
  · rw [if_neg hd] at hh
    have e1 : rvE A B s = distErr A B s := by unfold rvE; rw [if_neg hd]
    unfold rvLo rvHi
    rw [e1, if_neg hd, if_neg hd]
    exact hh
end Go.Proofs.Ytmhcmiajikffpaa
