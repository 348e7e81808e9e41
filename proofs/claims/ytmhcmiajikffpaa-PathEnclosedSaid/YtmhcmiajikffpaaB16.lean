/- Helpers: the document's own answers on motions (distances, remainders, copies, errors). -/
import Derived.Test.YtmhcmiajikffpaaB04
import Derived.Test.YtmhcmiajikffpaaB02
import Derived.Test.YtmhcmiajikffpaaB05
import Derived.Test.YtmhcmiajikffpaaB15
import Derived.Test.YtmhcmiajikffpaaB07
namespace Go.Proofs.Ytmhcmiajikffpaa
open Go.RowKit Go.Shelf Go.Sort
attribute [local go_sem] idx3_0 idx3_1 idx3_2 old1 fro1 old2 fro2 old3 fro3 old4 fro4 old5 fro5 old6 fro6 old7 fro7 old8 fro8 old9 fro9 old10 fro10 old11 fro11 old12 fro12
set_option maxRecDepth 100000 in
set_option maxHeartbeats 400000 in
theorem bwithin_any (x lo hi : Int) (w : World) :
    Calls Try.prog 13 #[.int .i64 x, .int .i64 lo, .int .i64 hi] w fun e w' => e = .returned (.bool (wi x lo hi)) ∧ w = w' := by
  by_cases h : lo ≤ x
  · go_enter Try.func13, Try.ntmps13
    go_wp2
    go_ret
    exact ⟨by simp [wi, h], rfl⟩
  · go_enter Try.func13, Try.ntmps13
    go_wp2
    go_ret
    exact ⟨ret_bool (wi_f.2 (by omega)).symm, rfl⟩
set_option maxRecDepth 100000 in
set_option maxHeartbeats 400000 in
theorem bsize_any (x : Int) (h1 : -9223372036854775807 ≤ x) (h2 : x ≤ 9223372036854775807) (w : World) :
    Calls Try.prog 94 #[.int .i64 x] w fun e w' => e = .returned (.int .i64 (siz x)) ∧ w = w' := by
  go_enter Try.func94, Try.ntmps94
  go_wp2
  all_goals (go_ret; exact ⟨ret_int (by unfold siz; omega), rfl⟩)
theorem mod_parts (x t : Int) (h1 : 1 ≤ t) : (x.tmod t < 0 ∧ x.tmod t + t = x % t ∧ -t < x.tmod t) ∨ (0 ≤ x.tmod t ∧ x.tmod t = x % t ∧ x.tmod t < t) := by
  have e1 := Int.tdiv_mul_add_tmod x t
  have h3 := Int.emod_nonneg x (show t ≠ 0 by omega)
  have h4 := Int.emod_lt_of_pos x (show 0 < t by omega)
  rcases Int.lt_or_le (x.tmod t) 0 with h | h
  · left
    have h6 : -t < x.tmod t := Int.lt_tmod_of_pos x (by omega)
    refine ⟨h, ?_, h6⟩
    have h8 : x = x.tmod t + t + t * (x.tdiv t - 1) := by rw [Int.mul_sub, Int.mul_one, Int.mul_comm]; omega
    have h9 : x % t = (x.tmod t + t + t * (x.tdiv t - 1)) % t := by rw [← h8]
    rw [h9, Int.add_mul_emod_self_left, Int.emod_eq_of_lt (by omega) (by omega)]
  · right
    have h6 : x.tmod t < t := Int.tmod_lt_of_pos x (by omega)
    refine ⟨h, ?_, h6⟩
    have h8 : x = x.tmod t + t * x.tdiv t := by rw [Int.mul_comm]; omega
    have h9 : x % t = (x.tmod t + t * x.tdiv t) % t := by rw [← h8]
    rw [h9, Int.add_mul_emod_self_left, Int.emod_eq_of_lt (by omega) (by omega)]
theorem mod_zero (x t : Int) (h1 : 1 ≤ t) : (x % t == 0) = (x.tmod t == 0) := by
  rcases mod_parts x t h1 with ⟨a, b, c⟩ | ⟨a, b, c⟩
  · rw [← b]
    have e1 : (x.tmod t == 0) = false := by simp; omega
    have e2 : (x.tmod t + t == 0) = false := by simp; omega
    rw [e1, e2]
  · rw [b]
set_option maxRecDepth 100000 in
set_option maxHeartbeats 800000 in
theorem bmod_any (x t : Int) (h1 : 1 ≤ t) (h2 : t ≤ 1000000000) (_ : -1000000000 ≤ x) (_ : x ≤ 1000000000) (w : World) :
    Calls Try.prog 93 #[.int .i64 x, .int .i64 t] w fun e w' => e = .returned (.int .i64 (x % t)) ∧ w = w' := by
  have u2 : (t == 0) = false := by simp; omega
  have u3 : ¬ t = 0 := by omega
  rcases mod_parts x t h1 with ⟨a, b, c⟩ | ⟨a, b, c⟩
  · generalize x % t = q at *
    generalize hm : x.tmod t = m at *
    have hp : m < 0 := a
    have u1 : IntKind.i64.wrap m = m := IntWalk.i64_in _ (by omega)
    have u4 : IntKind.i64.wrap (m + t) = m + t := IntWalk.i64_in _ (by omega)
    go_enter Try.func93, Try.ntmps93
    go_wp2
    go_ret
    exact ⟨rfl, rfl⟩
  · generalize x % t = q at *
    generalize hm : x.tmod t = m at *
    have hp : ¬ m < 0 := by omega
    have u1 : IntKind.i64.wrap m = m := IntWalk.i64_in _ (by omega)
    go_enter Try.func93, Try.ntmps93
    go_wp2
    go_ret
    exact ⟨rfl, rfl⟩
theorem addr_add (b o i : Nat) : ((⟨b, o, none⟩ : Addr).add i) = ⟨b, o + i, none⟩ := by simp [Addr.add]
def intsL (n : Nat) (xs : Nat → Int) : List Value := (List.range n).map fun i => .int .i64 (xs i)
theorem own_ints {w : World} {base e n : Nat} {v : Value} {xs : Nat → Int} (h : w.ownsRow base e 1 v n (intsL n xs)) : v = .slice (sA v) n (sC v) ∧ IA w (sA v) n xs := by
  obtain ⟨h1, h2⟩ := own_parts h
  refine ⟨h1, fun h0 => ?_⟩
  obtain ⟨h3, h4⟩ := h2 h0
  rw [h3] at h1
  rw [h1] at h
  refine ⟨sG v, 0, h3, fun i hi => ?_⟩
  have hc := h.cells (g := sG v) rfl i (.int .i64 (xs i)) (by simp [intsL, hi])
  rwa [addr_add] at hc
set_option maxRecDepth 100000 in
set_option maxHeartbeats 800000 in
theorem copyInts_some (a : Addr) (n c : Nat) (xs : Nat → Int) (w : World) (hn : n ≤ 1000000) (hA : IA w (some a) n xs) :
    Calls Try.prog 20 #[.slice (some a) n c] w fun e w' => ∃ A' c', e = .returned (.slice A' n c') ∧ IA w' A' n xs ∧ Below w.heap.size w w' := by
  obtain ⟨i0, hi0, hzz⟩ := Option.map_eq_some_iff.1 infoInt
  simp only [Prod.mk.injEq] at hzz
  obtain ⟨hz0, hz1, hz2⟩ := hzz
  have hnews : ∀ j u, (intsL n xs)[j]? = some u → w.cell? (a.add j) = some u := by
    intro j u hu
    have hj : j < n := by
      have := (List.getElem?_eq_some_iff.1 hu).1
      simpa [intsL] using this
    obtain ⟨b, o, e, hc⟩ := hA (by omega)
    obtain rfl : a = ⟨b, o, none⟩ := by simpa using e
    rw [addr_add, hc j hj]
    simpa [intsL, hj] using hu
  have HN := Lib.hid hnews
  have HA := Lib.hid hA
  clear hnews hA
  go_enter Try.func20, Try.ntmps20
  go_wp2_with (first
    | (at_builtin; go_loud (refine wpList_append_own_at _ rfl _ _ 48 rfl w.heap.size 3 i0 _ 1 8 undInts hi0 hz0 hz1 hz2 rfl (by decide) _ 0 [] rfl (World.ownsRow_made w #[] 0 (Nat.le_refl _) (by unfold maxLen; omega) rfl) a n c (intsL n xs) rfl (by simp [intsL]) (fun j u hu => (World.cell?_alloc_some w _ _ (by rw [HN.out j u hu]; rfl)).trans (HN.out j u hu)) (by simp [intsL, Value.oneCell']) (by unfold maxLen; omega) (by omega) (by simp) ?_; intro v' w5 hown' hgrow hnil hloc; obtain ⟨hv', hA'⟩ := own_ints (xs := xs) (by simpa using hown'); have HB5 : Below w.heap.size w w5 := ((Below.refl w.heap.size w).alloc (Nat.le_refl _) _).grown hgrow (by first | (simp; done) | (simp; omega) | omega) (fun k h => by cases h; exact Nat.le_refl _); have HA5 := Lib.hid hA'; rw [hv']; clear hown' hgrow hnil hloc hv' hA'))
    | fail)
  go_ret
  exact ⟨_, _, rfl, HA5.out, HB5⟩
set_option maxRecDepth 100000 in
set_option maxHeartbeats 800000 in
theorem copyInts_nil (w : World) :
    Calls Try.prog 20 #[.slice none 0 0] w fun e w' => ∃ A' c', e = .returned (.slice A' 0 c') ∧ Below w.heap.size w w' := by
  go_enter Try.func20, Try.ntmps20
  go_wp2_with fail
  go_ret
  exact ⟨_, _, rfl, by (repeat (first | with_reducible exact Below.refl _ _ | with_reducible assumption | with_reducible refine Below.alloc ?_ (by first | (simp; done) | (simp; omega) | omega) _ | with_reducible refine Below.setCell ?_ (by first | (simp; done) | (simp; omega) | omega) _ | with_reducible refine Below.drew ?_ | with_reducible refine below_drewN ?_ _))⟩
set_option maxRecDepth 100000 in
set_option maxHeartbeats 2000000 in
theorem rdriveErr_any (t lo hi st ra : Int) (w : World) :
    Calls Try.prog 22 #[.agg #[.int .i64 t, .int .i64 lo, .int .i64 hi, .int .i64 st, .int .i64 ra]] w fun e w' => e = .returned (.int .i64 (driveErr t lo hi st ra)) ∧ Below w.heap.size w w' := by
  go_enter Try.func22, Try.ntmps22
  go_wp2_with (first | (go_at_call 13; (with_reducible refine (bwithin_any _ _ _ _).mono ?_); rintro e w' ⟨rfl, rfl⟩))
  all_goals
    go_ret
    refine ⟨ret_int ?_, by (repeat (first | with_reducible exact Below.refl _ _ | with_reducible assumption | with_reducible refine Below.alloc ?_ (by first | (simp; done) | (simp; omega) | omega) _ | with_reducible refine Below.setCell ?_ (by first | (simp; done) | (simp; omega) | omega) _ | with_reducible refine Below.drew ?_ | with_reducible refine below_drewN ?_ _))⟩
    unfold driveErr dr1
    by_cases hq : lo ≤ hi
    · first
        | omega
        | (simp_all; done)
    · have hq2 : decide (lo ≤ hi) = false := by simp; omega
      rw [hq2]
      first
        | omega
        | (simp_all; done)
theorem tg_hit {t : Int} {xs : Nat → Int} {n k : Nat} (hk : k < n) (h : wi (xs k) 0 (t - 1) = false) : ((List.range n).any fun i => !wi (xs i) 0 (t - 1)) = true := List.any_eq_true.2 ⟨k, List.mem_range.2 hk, by simp [h]⟩
theorem tg_miss {t : Int} {xs : Nat → Int} {n : Nat} (h : ∀ i, i < n → wi (xs i) 0 (t - 1) = true) : ((List.range n).any fun i => !wi (xs i) 0 (t - 1)) = false := List.any_eq_false.2 fun i hi => by simp [h i (List.mem_range.1 hi)]
set_option maxRecDepth 100000 in
set_option maxHeartbeats 2000000 in
theorem rtargetsErr_any (t lo hi st ra : Int) (A : Option Addr) (n c : Nat) (xs : Nat → Int) (w : World) (hn : n ≤ 1000000) (t1 : 1 ≤ t) (t2 : t ≤ 3600) (hA : IA w A n xs) :
    Calls Try.prog 23 #[.agg #[.int .i64 t, .int .i64 lo, .int .i64 hi, .int .i64 st, .int .i64 ra], .slice A n c] w fun e w' => e = .returned (.int .i64 (tgErr n xs t)) ∧ Below w.heap.size w w' := by
  have u1 : IntKind.i64.wrap (t - 1) = t - 1 := IntWalk.i64_in _ (by omega)
  have HA := Lib.hid hA
  clear hA
  by_cases h40 : n ≤ 40
  · have p0 : ¬ (n : Int) > 40 := by omega
    go_enter Try.func23, Try.ntmps23
    go_wp2_with fail
    go_loopw [5] (fun i wr => ∃ k : Nat, k ≤ n ∧ i = .int .i64 k ∧ Below w.heap.size w wr ∧ wr.cell? ⟨w.heap.size, 0, none⟩ = some (.int .i64 t) ∧ w.heap.size < wr.heap.size ∧ Hid (∀ j, j < k → wi (xs j) 0 (t - 1) = true)) (fun i _ => n - (intOf i).toNat)
    case atStart => exact ⟨0, Nat.zero_le _, rfl, by (repeat (first | with_reducible exact Below.refl _ _ | with_reducible assumption | with_reducible refine Below.alloc ?_ (by first | (simp; done) | (simp; omega) | omega) _ | with_reducible refine Below.setCell ?_ (by first | (simp; done) | (simp; omega) | omega) _ | with_reducible refine Below.drew ?_ | with_reducible refine below_drewN ?_ _)), by simp [go_sem], by simp, fun j hj => absurd hj (Nat.not_lt_zero _)⟩
    case round =>
      obtain ⟨k, hk, rfl, hbel, d0, hws, H⟩ := hrel
      by_cases hlt : k < n
      · obtain ⟨b1, o1, rfl, hc1⟩ := HA.out (by omega)
        have q1 := keep hbel (hc1 k hlt)
        have hb1 := lt_of (hc1 k hlt)
        have p1 : (0 : Int) ≤ (k : Int) := by omega
        have p2 : (k : Int) < (n : Int) := by omega
        have HL := Lib.hid hlt
        clear hc1
        cases hw : wi (xs k) 0 (t - 1)
        · have HW := Lib.hid hw
          go_wp2_with fail
          go_region_held3 (fun w' => w'.cell? ⟨b1, o1 + k, none⟩ = some (.int .i64 (xs k)) ∧ w'.cell? ⟨w.heap.size, 0, none⟩ = some (.int .i64 t)) (simp [go_sem, *]) (first | (go_at_call 13; ((with_reducible refine (bwithin_any _ _ _ _).mono ?_); rintro e w1 ⟨rfl, rfl⟩)))
          all_goals
            go_wp2
            go_ret
            refine ⟨ret_int ?_, by (repeat (first | with_reducible exact Below.refl _ _ | with_reducible assumption | with_reducible refine Below.alloc ?_ (by first | (simp; done) | (simp; omega) | omega) _ | with_reducible refine Below.setCell ?_ (by first | (simp; done) | (simp; omega) | omega) _ | with_reducible refine Below.drew ?_ | with_reducible refine below_drewN ?_ _))⟩
            unfold tgErr
            rw [tg_hit HL.out HW.out]
            simp
            omega
        · have HW := Lib.hid hw
          go_wp2_with fail
          go_region_held3 (fun w' => w'.cell? ⟨b1, o1 + k, none⟩ = some (.int .i64 (xs k)) ∧ w'.cell? ⟨w.heap.size, 0, none⟩ = some (.int .i64 t)) (simp [go_sem, *]) (first | (go_at_call 13; ((with_reducible refine (bwithin_any _ _ _ _).mono ?_); rintro e w1 ⟨rfl, rfl⟩)))
          all_goals
            go_wp2
            go_roundw
            case rel => exact ⟨k + 1, by omega, by go_num, by (repeat (first | with_reducible exact Below.refl _ _ | with_reducible assumption | with_reducible refine Below.alloc ?_ (by first | (simp; done) | (simp; omega) | omega) _ | with_reducible refine Below.setCell ?_ (by first | (simp; done) | (simp; omega) | omega) _ | with_reducible refine Below.drew ?_ | with_reducible refine below_drewN ?_ _)), by simp [go_sem, *], hws, fun j hj => (by
              rcases Nat.lt_succ_iff_lt_or_eq.1 hj with h | h
              · exact H.out j h
              · rw [h]; exact HW.out)⟩
            case measure => simp [intOf]; omega
      · obtain rfl : k = n := by omega
        go_wp2
        go_ret
        refine ⟨ret_int ?_, hbel⟩
        unfold tgErr
        rw [tg_miss H.out]
        simp
        omega
  · have p0 : (n : Int) > 40 := by omega
    go_enter Try.func23, Try.ntmps23
    go_wp2_with fail
    go_ret
    exact ⟨ret_int (by unfold tgErr; simp; omega), by (repeat (first | with_reducible exact Below.refl _ _ | with_reducible assumption | with_reducible refine Below.alloc ?_ (by first | (simp; done) | (simp; omega) | omega) _ | with_reducible refine Below.setCell ?_ (by first | (simp; done) | (simp; omega) | omega) _ | with_reducible refine Below.drew ?_ | with_reducible refine below_drewN ?_ _))⟩
end Go.Proofs.Ytmhcmiajikffpaa
namespace Go.Proofs.Ytmhcmiajikffpaa
open Go.RowKit Go.Shelf Go.Sort
attribute [local go_sem] idx3_0 idx3_1 idx3_2 old1 fro1 old2 fro2 old3 fro3 old4 fro4 old5 fro5 old6 fro6 old7 fro7 old8 fro8 old9 fro9 old10 fro10 old11 fro11 old12 fro12
set_option maxRecDepth 100000 in
set_option maxHeartbeats 400000 in
theorem btick_any (x : Int) (w : World) : Calls Try.prog 95 #[.int .i64 x] w fun e w' => e = .returned (.bool (wi x 0 1000000000000)) ∧ w = w' := by
  go_enter Try.func95, Try.ntmps95
  go_wp2_with (go_at_call 13; (with_reducible refine (bwithin_any _ _ _ _).mono ?_); rintro e w' ⟨rfl, rfl⟩)
  go_ret
  exact ⟨rfl, rfl⟩
set_option maxRecDepth 100000 in
set_option maxHeartbeats 800000 in
theorem bminus_any (x y z x0 y0 z0 : Int) (a1 : -1000000 ≤ x) (a2 : x ≤ 1000000) (a3 : -1000000 ≤ y) (a4 : y ≤ 1000000) (a5 : -1000000 ≤ z) (a6 : z ≤ 1000000) (b1 : -1000000 ≤ x0) (b2 : x0 ≤ 1000000) (b3 : -1000000 ≤ y0) (b4 : y0 ≤ 1000000) (b5 : -1000000 ≤ z0) (b6 : z0 ≤ 1000000) (w : World) :
    Calls Try.prog 97 #[.agg #[.int .i64 x, .int .i64 y, .int .i64 z], .agg #[.int .i64 x0, .int .i64 y0, .int .i64 z0]] w fun e w' => e = .returned (.agg #[.int .i64 (x - x0), .int .i64 (y - y0), .int .i64 (z - z0)]) ∧ Below w.heap.size w w' := by
  have u1 : IntKind.i64.wrap (x - x0) = x - x0 := IntWalk.i64_in _ (by omega)
  have u2 : IntKind.i64.wrap (y - y0) = y - y0 := IntWalk.i64_in _ (by omega)
  have u3 : IntKind.i64.wrap (z - z0) = z - z0 := IntWalk.i64_in _ (by omega)
  go_enter Try.func97, Try.ntmps97
  go_wp2_with fail
  refine bodyPost_ret (v := .agg #[.int .i64 (x - x0), .int .i64 (y - y0), .int .i64 (z - z0)]) (by simp [results, Try.results97, go_sem]) rfl ⟨rfl, by (repeat (first | with_reducible exact Below.refl _ _ | with_reducible assumption | with_reducible refine Below.alloc ?_ (by first | (simp; done) | (simp; omega) | omega) _ | with_reducible refine Below.setCell ?_ (by first | (simp; done) | (simp; omega) | omega) _ | with_reducible refine Below.drew ?_ | with_reducible refine below_drewN ?_ _))⟩
def sq3 (x y z : Int) : Int := x * x + y * y + z * z
theorem sq3_bd {x y z : Int} (a1 : -2000000 ≤ x) (a2 : x ≤ 2000000) (a3 : -2000000 ≤ y) (a4 : y ≤ 2000000) (a5 : -2000000 ≤ z) (a6 : z ≤ 2000000) : (0 ≤ x * x ∧ x * x ≤ 4000000000000) ∧ (0 ≤ y * y ∧ y * y ≤ 4000000000000) ∧ (0 ≤ z * z ∧ z * z ≤ 4000000000000) :=
  ⟨⟨sq_nn x, by have := sq_bd a1 a2; omega⟩, ⟨sq_nn y, by have := sq_bd a3 a4; omega⟩, ⟨sq_nn z, by have := sq_bd a5 a6; omega⟩⟩
set_option maxRecDepth 100000 in
set_option maxHeartbeats 800000 in
theorem bdot_any (x y z : Int) (a1 : -2000000 ≤ x) (a2 : x ≤ 2000000) (a3 : -2000000 ≤ y) (a4 : y ≤ 2000000) (a5 : -2000000 ≤ z) (a6 : z ≤ 2000000) (w : World) :
    Calls Try.prog 105 #[.agg #[.int .i64 x, .int .i64 y, .int .i64 z], .agg #[.int .i64 x, .int .i64 y, .int .i64 z]] w fun e w' => e = .returned (.int .i64 (sq3 x y z)) ∧ Below w.heap.size w w' := by
  obtain ⟨⟨p1, p2⟩, ⟨p3, p4⟩, ⟨p5, p6⟩⟩ := sq3_bd a1 a2 a3 a4 a5 a6
  have u1 : IntKind.i64.wrap (x * x) = x * x := IntWalk.i64_in _ (by omega)
  have u2 : IntKind.i64.wrap (y * y) = y * y := IntWalk.i64_in _ (by omega)
  have u3 : IntKind.i64.wrap (z * z) = z * z := IntWalk.i64_in _ (by omega)
  have u4 : IntKind.i64.wrap (x * x + y * y) = x * x + y * y := IntWalk.i64_in _ (by omega)
  have u5 : IntKind.i64.wrap (x * x + y * y + z * z) = x * x + y * y + z * z := IntWalk.i64_in _ (by omega)
  clear p1 p2 p3 p4 p5 p6
  go_enter Try.func105, Try.ntmps105
  go_wp2_with fail
  go_ret
  exact ⟨rfl, by (repeat (first | with_reducible exact Below.refl _ _ | with_reducible assumption | with_reducible refine Below.alloc ?_ (by first | (simp; done) | (simp; omega) | omega) _ | with_reducible refine Below.setCell ?_ (by first | (simp; done) | (simp; omega) | omega) _ | with_reducible refine Below.drew ?_ | with_reducible refine below_drewN ?_ _))⟩
set_option maxRecDepth 100000 in
set_option maxHeartbeats 800000 in
theorem bsquare_any (x y z : Int) (a1 : -2000000 ≤ x) (a2 : x ≤ 2000000) (a3 : -2000000 ≤ y) (a4 : y ≤ 2000000) (a5 : -2000000 ≤ z) (a6 : z ≤ 2000000) (w : World) :
    Calls Try.prog 96 #[.agg #[.int .i64 x, .int .i64 y, .int .i64 z]] w fun e w' => e = .returned (.int .i64 (sq3 x y z)) ∧ Below w.heap.size w w' := by
  go_enter Try.func96, Try.ntmps96
  go_wp2_with (go_at_call 105; (with_reducible refine Calls.mono (bdot_any x y z a1 a2 a3 a4 a5 a6 _) ?_); rintro e w1 ⟨rfl, hb1⟩; have B1 := thenB (show Below w.heap.size w _ by (repeat (first | with_reducible exact Below.refl _ _ | with_reducible assumption | with_reducible refine Below.alloc ?_ (by first | (simp; done) | (simp; omega) | omega) _ | with_reducible refine Below.setCell ?_ (by first | (simp; done) | (simp; omega) | omega) _ | with_reducible refine Below.drew ?_ | with_reducible refine below_drewN ?_ _))) hb1)
  go_ret
  exact ⟨rfl, B1⟩
theorem psum_sq3 (x y z x0 y0 z0 : Int) : psum x y z x0 y0 z0 3 = 4 * sq3 (x - x0) (y - y0) (z - z0) := by
  simp only [psum, sq3, show (0 : Int) < 3 by decide, show (1 : Int) < 3 by decide, show (2 : Int) < 3 by decide, if_true]
  generalize x - x0 = a
  generalize y - y0 = b
  generalize z - z0 = c
  rw [show 2 * a * (2 * a) = 4 * (a * a) by rw [Int.mul_assoc, Int.mul_left_comm a 2 a, ← Int.mul_assoc]; rfl, show 2 * b * (2 * b) = 4 * (b * b) by rw [Int.mul_assoc, Int.mul_left_comm b 2 b, ← Int.mul_assoc]; rfl, show 2 * c * (2 * c) = 4 * (c * c) by rw [Int.mul_assoc, Int.mul_left_comm c 2 c, ← Int.mul_assoc]; rfl]
  omega
end Go.Proofs.Ytmhcmiajikffpaa
