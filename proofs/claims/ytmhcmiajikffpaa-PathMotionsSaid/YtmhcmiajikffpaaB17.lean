/- Helpers: rows of numbers that the call itself made. -/
import Derived.Test.YtmhcmiajikffpaaB04
import Derived.Test.YtmhcmiajikffpaaB02
import Derived.Test.YtmhcmiajikffpaaB05
import Derived.Test.YtmhcmiajikffpaaB16
import Derived.OwnWalk
import Derived.Maps.AppendAt
namespace Go.Proofs.Ytmhcmiajikffpaa
open Go.RowKit Go.Shelf Go.Sort
theorem addr_addI (b o i : Nat) : ((⟨b, o, none⟩ : Addr).add i) = ⟨b, o + i, none⟩ := by simp [Addr.add]
def intsV (n : Nat) (xs : Nat → Int) : List Value := (List.range n).map fun i => .int .i64 (xs i)
theorem intsV_s (n : Nat) (xs : Nat → Int) : intsV (n + 1) xs = intsV n xs ++ [.int .i64 (xs n)] := by simp [intsV, List.range_succ]
theorem intsV_len (n : Nat) (xs : Nat → Int) : (intsV n xs).length = n := by simp [intsV]
theorem own_intsV {w : World} {base e n : Nat} {v : Value} {xs : Nat → Int} (h : w.ownsRow base e 1 v n (intsV n xs)) : v = .slice (sA v) n (sC v) ∧ IA w (sA v) n xs := by
  obtain ⟨h1, h2⟩ := own_parts h
  refine ⟨h1, fun h0 => ?_⟩
  obtain ⟨h3, h4⟩ := h2 h0
  rw [h3] at h1
  rw [h1] at h
  refine ⟨sG v, 0, h3, fun i hi => ?_⟩
  have hc := h.cells (g := sG v) rfl i (.int .i64 (xs i)) (by simp [intsV, hi])
  rwa [addr_addI] at hc
theorem IA.less {w : World} {A : Option Addr} {n m : Nat} {xs : Nat → Int} (h : IA w A n xs) (hm : m ≤ n) : IA w A m xs := fun h0 => by
  obtain ⟨b, off, e, hc⟩ := h (by omega)
  exact ⟨b, off, e, fun i hi => hc i (by omega)⟩
theorem IA.same {w : World} {A : Option Addr} {n : Nat} {xs ys : Nat → Int} (h : IA w A n xs) (he : ∀ i, i < n → xs i = ys i) : IA w A n ys := fun h0 => by
  obtain ⟨b, off, e, hc⟩ := h h0
  exact ⟨b, off, e, fun i hi => by rw [← he i hi]; exact hc i hi⟩
end Go.Proofs.Ytmhcmiajikffpaa
namespace Go.Proofs.Ytmhcmiajikffpaa
open Go.RowKit Go.Shelf Go.Sort
attribute [local go_sem] idx3_0 idx3_1 idx3_2 old1 fro1 old2 fro2 old3 fro3 old4 fro4 old5 fro5 old6 fro6 old7 fro7 old8 fro8 old9 fro9 old10 fro10 old11 fro11 old12 fro12
set_option maxRecDepth 100000 in
set_option maxHeartbeats 400000 in
theorem bwithin_any (x lo hi : Int) (w : World) :
    Calls Try.prog 13 #[.int .i64 x, .int .i64 lo, .int .i64 hi] w fun e w' => e = .returned (.bool (wi x lo hi)) ∧ w = w' := by
  by_cases h : lo ≤ x
  · go_enter Try.func13, Try.ntmps13
    go_wp2
    go_ret
    exact ⟨by simp [wi, h], rfl⟩
  · go_enter Try.func13, Try.ntmps13
    go_wp2
    go_ret
    exact ⟨ret_bool (wi_f.2 (by omega)).symm, rfl⟩
set_option maxRecDepth 100000 in
set_option maxHeartbeats 400000 in
theorem bsize_any (x : Int) (h1 : -9223372036854775807 ≤ x) (h2 : x ≤ 9223372036854775807) (w : World) :
    Calls Try.prog 94 #[.int .i64 x] w fun e w' => e = .returned (.int .i64 (siz x)) ∧ w = w' := by
  go_enter Try.func94, Try.ntmps94
  go_wp2
  all_goals (go_ret; exact ⟨ret_int (by unfold siz; omega), rfl⟩)
theorem mod_parts (x t : Int) (h1 : 1 ≤ t) : (x.tmod t < 0 ∧ x.tmod t + t = x % t ∧ -t < x.tmod t) ∨ (0 ≤ x.tmod t ∧ x.tmod t = x % t ∧ x.tmod t < t) := by
  have e1 := Int.tdiv_mul_add_tmod x t
  have h3 := Int.emod_nonneg x (show t ≠ 0 by omega)
  have h4 := Int.emod_lt_of_pos x (show 0 < t by omega)
  rcases Int.lt_or_le (x.tmod t) 0 with h | h
  · left
    have h6 : -t < x.tmod t := Int.lt_tmod_of_pos x (by omega)
    refine ⟨h, ?_, h6⟩
    have h8 : x = x.tmod t + t + t * (x.tdiv t - 1) := by rw [Int.mul_sub, Int.mul_one, Int.mul_comm]; omega
    have h9 : x % t = (x.tmod t + t + t * (x.tdiv t - 1)) % t := by rw [← h8]
    rw [h9, Int.add_mul_emod_self_left, Int.emod_eq_of_lt (by omega) (by omega)]
  · right
    have h6 : x.tmod t < t := Int.tmod_lt_of_pos x (by omega)
    refine ⟨h, ?_, h6⟩
    have h8 : x = x.tmod t + t * x.tdiv t := by rw [Int.mul_comm]; omega
    have h9 : x % t = (x.tmod t + t * x.tdiv t) % t := by rw [← h8]
    rw [h9, Int.add_mul_emod_self_left, Int.emod_eq_of_lt (by omega) (by omega)]
theorem mod_zero (x t : Int) (h1 : 1 ≤ t) : (x % t == 0) = (x.tmod t == 0) := by
  rcases mod_parts x t h1 with ⟨a, b, c⟩ | ⟨a, b, c⟩
  · rw [← b]
    have e1 : (x.tmod t == 0) = false := by simp; omega
    have e2 : (x.tmod t + t == 0) = false := by simp; omega
    rw [e1, e2]
  · rw [b]
set_option maxRecDepth 100000 in
set_option maxHeartbeats 800000 in
theorem bmod_any (x t : Int) (h1 : 1 ≤ t) (h2 : t ≤ 1000000000) (_ : -1000000000 ≤ x) (_ : x ≤ 1000000000) (w : World) :
    Calls Try.prog 93 #[.int .i64 x, .int .i64 t] w fun e w' => e = .returned (.int .i64 (x % t)) ∧ w = w' := by
  have u2 : (t == 0) = false := by simp; omega
  have u3 : ¬ t = 0 := by omega
  rcases mod_parts x t h1 with ⟨a, b, c⟩ | ⟨a, b, c⟩
  · generalize x % t = q at *
    generalize hm : x.tmod t = m at *
    have hp : m < 0 := a
    have u1 : IntKind.i64.wrap m = m := IntWalk.i64_in _ (by omega)
    have u4 : IntKind.i64.wrap (m + t) = m + t := IntWalk.i64_in _ (by omega)
    go_enter Try.func93, Try.ntmps93
    go_wp2
    go_ret
    exact ⟨rfl, rfl⟩
  · generalize x % t = q at *
    generalize hm : x.tmod t = m at *
    have hp : ¬ m < 0 := by omega
    have u1 : IntKind.i64.wrap m = m := IntWalk.i64_in _ (by omega)
    go_enter Try.func93, Try.ntmps93
    go_wp2
    go_ret
    exact ⟨rfl, rfl⟩
theorem addr_add (b o i : Nat) : ((⟨b, o, none⟩ : Addr).add i) = ⟨b, o + i, none⟩ := by simp [Addr.add]
def intsL (n : Nat) (xs : Nat → Int) : List Value := (List.range n).map fun i => .int .i64 (xs i)
theorem own_ints {w : World} {base e n : Nat} {v : Value} {xs : Nat → Int} (h : w.ownsRow base e 1 v n (intsL n xs)) : v = .slice (sA v) n (sC v) ∧ IA w (sA v) n xs := by
  obtain ⟨h1, h2⟩ := own_parts h
  refine ⟨h1, fun h0 => ?_⟩
  obtain ⟨h3, h4⟩ := h2 h0
  rw [h3] at h1
  rw [h1] at h
  refine ⟨sG v, 0, h3, fun i hi => ?_⟩
  have hc := h.cells (g := sG v) rfl i (.int .i64 (xs i)) (by simp [intsL, hi])
  rwa [addr_add] at hc
set_option maxRecDepth 100000 in
set_option maxHeartbeats 800000 in
theorem copyInts_some (a : Addr) (n c : Nat) (xs : Nat → Int) (w : World) (hn : n ≤ 1000000) (hA : IA w (some a) n xs) :
    Calls Try.prog 20 #[.slice (some a) n c] w fun e w' => ∃ A' c', e = .returned (.slice A' n c') ∧ IA w' A' n xs ∧ Below w.heap.size w w' := by
  obtain ⟨i0, hi0, hzz⟩ := Option.map_eq_some_iff.1 infoInt
  simp only [Prod.mk.injEq] at hzz
  obtain ⟨hz0, hz1, hz2⟩ := hzz
  have hnews : ∀ j u, (intsL n xs)[j]? = some u → w.cell? (a.add j) = some u := by
    intro j u hu
    have hj : j < n := by
      have := (List.getElem?_eq_some_iff.1 hu).1
      simpa [intsL] using this
    obtain ⟨b, o, e, hc⟩ := hA (by omega)
    obtain rfl : a = ⟨b, o, none⟩ := by simpa using e
    rw [addr_add, hc j hj]
    simpa [intsL, hj] using hu
  have HN := Lib.hid hnews
  have HA := Lib.hid hA
  clear hnews hA
  go_enter Try.func20, Try.ntmps20
  go_wp2_with (first
    | (at_builtin; go_loud (refine wpList_append_own_at _ rfl _ _ 48 rfl w.heap.size 3 i0 _ 1 8 undInts hi0 hz0 hz1 hz2 rfl (by decide) _ 0 [] rfl (World.ownsRow_made w #[] 0 (Nat.le_refl _) (by unfold maxLen; omega) rfl) a n c (intsL n xs) rfl (by simp [intsL]) (fun j u hu => (World.cell?_alloc_some w _ _ (by rw [HN.out j u hu]; rfl)).trans (HN.out j u hu)) (by simp [intsL, Value.oneCell']) (by unfold maxLen; omega) (by omega) (by simp) ?_; intro v' w5 hown' hgrow hnil hloc; obtain ⟨hv', hA'⟩ := own_ints (xs := xs) (by simpa using hown'); have HB5 : Below w.heap.size w w5 := ((Below.refl w.heap.size w).alloc (Nat.le_refl _) _).grown hgrow (by first | (simp; done) | (simp; omega) | omega) (fun k h => by cases h; exact Nat.le_refl _); have HA5 := Lib.hid hA'; rw [hv']; clear hown' hgrow hnil hloc hv' hA'))
    | fail)
  go_ret
  exact ⟨_, _, rfl, HA5.out, HB5⟩
set_option maxRecDepth 100000 in
set_option maxHeartbeats 800000 in
theorem copyInts_nil (w : World) :
    Calls Try.prog 20 #[.slice none 0 0] w fun e w' => ∃ A' c', e = .returned (.slice A' 0 c') ∧ Below w.heap.size w w' := by
  go_enter Try.func20, Try.ntmps20
  go_wp2_with fail
  go_ret
  exact ⟨_, _, rfl, by (repeat (first | with_reducible exact Below.refl _ _ | with_reducible assumption | with_reducible refine Below.alloc ?_ (by first | (simp; done) | (simp; omega) | omega) _ | with_reducible refine Below.setCell ?_ (by first | (simp; done) | (simp; omega) | omega) _ | with_reducible refine Below.drew ?_ | with_reducible refine below_drewN ?_ _))⟩
set_option maxRecDepth 100000 in
set_option maxHeartbeats 2000000 in
theorem rdriveErr_any (t lo hi st ra : Int) (w : World) :
    Calls Try.prog 22 #[.agg #[.int .i64 t, .int .i64 lo, .int .i64 hi, .int .i64 st, .int .i64 ra]] w fun e w' => e = .returned (.int .i64 (driveErr t lo hi st ra)) ∧ Below w.heap.size w w' := by
  go_enter Try.func22, Try.ntmps22
  go_wp2_with (first | (go_at_call 13; (with_reducible refine (bwithin_any _ _ _ _).mono ?_); rintro e w' ⟨rfl, rfl⟩))
  all_goals
    go_ret
    refine ⟨ret_int ?_, by (repeat (first | with_reducible exact Below.refl _ _ | with_reducible assumption | with_reducible refine Below.alloc ?_ (by first | (simp; done) | (simp; omega) | omega) _ | with_reducible refine Below.setCell ?_ (by first | (simp; done) | (simp; omega) | omega) _ | with_reducible refine Below.drew ?_ | with_reducible refine below_drewN ?_ _))⟩
    unfold driveErr dr1
    by_cases hq : lo ≤ hi
    · first
        | omega
        | (simp_all; done)
    · have hq2 : decide (lo ≤ hi) = false := by simp; omega
      rw [hq2]
      first
        | omega
        | (simp_all; done)
theorem tg_hit {t : Int} {xs : Nat → Int} {n k : Nat} (hk : k < n) (h : wi (xs k) 0 (t - 1) = false) : ((List.range n).any fun i => !wi (xs i) 0 (t - 1)) = true := List.any_eq_true.2 ⟨k, List.mem_range.2 hk, by simp [h]⟩
theorem tg_miss {t : Int} {xs : Nat → Int} {n : Nat} (h : ∀ i, i < n → wi (xs i) 0 (t - 1) = true) : ((List.range n).any fun i => !wi (xs i) 0 (t - 1)) = false := List.any_eq_false.2 fun i hi => by simp [h i (List.mem_range.1 hi)]
set_option maxRecDepth 100000 in
set_option maxHeartbeats 2000000 in
theorem rtargetsErr_any (t lo hi st ra : Int) (A : Option Addr) (n c : Nat) (xs : Nat → Int) (w : World) (hn : n ≤ 1000000) (t1 : 1 ≤ t) (t2 : t ≤ 3600) (hA : IA w A n xs) :
    Calls Try.prog 23 #[.agg #[.int .i64 t, .int .i64 lo, .int .i64 hi, .int .i64 st, .int .i64 ra], .slice A n c] w fun e w' => e = .returned (.int .i64 (tgErr n xs t)) ∧ Below w.heap.size w w' := by
  have u1 : IntKind.i64.wrap (t - 1) = t - 1 := IntWalk.i64_in _ (by omega)
  have HA := Lib.hid hA
  clear hA
  by_cases h40 : n ≤ 40
  · have p0 : ¬ (n : Int) > 40 := by omega
    go_enter Try.func23, Try.ntmps23
    go_wp2_with fail
    go_loopw [5] (fun i wr => ∃ k : Nat, k ≤ n ∧ i = .int .i64 k ∧ Below w.heap.size w wr ∧ wr.cell? ⟨w.heap.size, 0, none⟩ = some (.int .i64 t) ∧ w.heap.size < wr.heap.size ∧ Hid (∀ j, j < k → wi (xs j) 0 (t - 1) = true)) (fun i _ => n - (intOf i).toNat)
    case atStart => exact ⟨0, Nat.zero_le _, rfl, by (repeat (first | with_reducible exact Below.refl _ _ | with_reducible assumption | with_reducible refine Below.alloc ?_ (by first | (simp; done) | (simp; omega) | omega) _ | with_reducible refine Below.setCell ?_ (by first | (simp; done) | (simp; omega) | omega) _ | with_reducible refine Below.drew ?_ | with_reducible refine below_drewN ?_ _)), by simp [go_sem], by simp, fun j hj => absurd hj (Nat.not_lt_zero _)⟩
    case round =>
      obtain ⟨k, hk, rfl, hbel, d0, hws, H⟩ := hrel
      by_cases hlt : k < n
      · obtain ⟨b1, o1, rfl, hc1⟩ := HA.out (by omega)
        have q1 := keep hbel (hc1 k hlt)
        have hb1 := lt_of (hc1 k hlt)
        have p1 : (0 : Int) ≤ (k : Int) := by omega
        have p2 : (k : Int) < (n : Int) := by omega
        have HL := Lib.hid hlt
        clear hc1
        cases hw : wi (xs k) 0 (t - 1)
        · have HW := Lib.hid hw
          go_wp2_with fail
          go_region_held3 (fun w' => w'.cell? ⟨b1, o1 + k, none⟩ = some (.int .i64 (xs k)) ∧ w'.cell? ⟨w.heap.size, 0, none⟩ = some (.int .i64 t)) (simp [go_sem, *]) (first | (go_at_call 13; ((with_reducible refine (bwithin_any _ _ _ _).mono ?_); rintro e w1 ⟨rfl, rfl⟩)))
          all_goals
            go_wp2
            go_ret
            refine ⟨ret_int ?_, by (repeat (first | with_reducible exact Below.refl _ _ | with_reducible assumption | with_reducible refine Below.alloc ?_ (by first | (simp; done) | (simp; omega) | omega) _ | with_reducible refine Below.setCell ?_ (by first | (simp; done) | (simp; omega) | omega) _ | with_reducible refine Below.drew ?_ | with_reducible refine below_drewN ?_ _))⟩
            unfold tgErr
            rw [tg_hit HL.out HW.out]
            simp
            omega
        · have HW := Lib.hid hw
          go_wp2_with fail
          go_region_held3 (fun w' => w'.cell? ⟨b1, o1 + k, none⟩ = some (.int .i64 (xs k)) ∧ w'.cell? ⟨w.heap.size, 0, none⟩ = some (.int .i64 t)) (simp [go_sem, *]) (first | (go_at_call 13; ((with_reducible refine (bwithin_any _ _ _ _).mono ?_); rintro e w1 ⟨rfl, rfl⟩)))
          all_goals
            go_wp2
            go_roundw
            case rel => exact ⟨k + 1, by omega, by go_num, by (repeat (first | with_reducible exact Below.refl _ _ | with_reducible assumption | with_reducible refine Below.alloc ?_ (by first | (simp; done) | (simp; omega) | omega) _ | with_reducible refine Below.setCell ?_ (by first | (simp; done) | (simp; omega) | omega) _ | with_reducible refine Below.drew ?_ | with_reducible refine below_drewN ?_ _)), by simp [go_sem, *], hws, fun j hj => (by
              rcases Nat.lt_succ_iff_lt_or_eq.1 hj with h | h
              · exact H.out j h
              · rw [h]; exact HW.out)⟩
            case measure => simp [intOf]; omega
      · obtain rfl : k = n := by omega
        go_wp2
        go_ret
        refine ⟨ret_int ?_, hbel⟩
        unfold tgErr
        rw [tg_miss H.out]
        simp
        omega
  · have p0 : (n : Int) > 40 := by omega
    go_enter Try.func23, Try.ntmps23
    go_wp2_with fail
    go_ret
    exact ⟨ret_int (by unfold tgErr; simp; omega), by (repeat (first | with_reducible exact Below.refl _ _ | with_reducible assumption | with_reducible refine Below.alloc ?_ (by first | (simp; done) | (simp; omega) | omega) _ | with_reducible refine Below.setCell ?_ (by first | (simp; done) | (simp; omega) | omega) _ | with_reducible refine Below.drew ?_ | with_reducible refine below_drewN ?_ _))⟩
end Go.Proofs.Ytmhcmiajikffpaa
namespace Go.Proofs.Ytmhcmiajikffpaa
open Go.RowKit Go.Shelf Go.Sort
attribute [local go_sem] idx3_0 idx3_1 idx3_2 old1 fro1 old2 fro2 old3 fro3 old4 fro4 old5 fro5 old6 fro6 old7 fro7 old8 fro8 old9 fro9 old10 fro10 old11 fro11 old12 fro12
def stL (l : List St) : List Value := l.flatMap fun s => [.int .i64 s.a, .int .i64 s.tr, .int .i64 s.nx]
theorem stL_add (l : List St) (s : St) : stL (l ++ [s]) = stL l ++ [.int .i64 s.a, .int .i64 s.tr, .int .i64 s.nx] := by simp [stL]
theorem stL_len (l : List St) : (stL l).length = l.length * 3 := by
  induction l with
  | nil => rfl
  | cons s l ih =>
    show (stL l).length + 3 = (l.length + 1) * 3
    omega
theorem stL_get : ∀ (l : List St) (j : Nat), j < l.length → (stL l)[j * 3]? = some (.int .i64 (l.getD j St0).a) ∧ (stL l)[j * 3 + 1]? = some (.int .i64 (l.getD j St0).tr) ∧ (stL l)[j * 3 + 2]? = some (.int .i64 (l.getD j St0).nx)
  | [], j, h => absurd h (Nat.not_lt_zero j)
  | s :: l, 0, _ => ⟨rfl, rfl, rfl⟩
  | s :: l, j + 1, h => by
    have ih := stL_get l j (by simpa using h)
    have e : stL (s :: l) = [.int .i64 s.a, .int .i64 s.tr, .int .i64 s.nx] ++ stL l := rfl
    rw [e, List.getD_cons_succ]
    have g : ∀ r, ([Value.int .i64 s.a, .int .i64 s.tr, .int .i64 s.nx] ++ stL l)[(j + 1) * 3 + r]? = (stL l)[j * 3 + r]? := fun r => by
      rw [List.getElem?_append_right (by simp; omega)]
      congr 1
      simp
      omega
    exact ⟨(g 0).trans ih.1, (g 1).trans ih.2.1, (g 2).trans ih.2.2⟩
/-- a row of steps lies there -/
def SA (w : World) (A : Option Addr) (l : List St) : Prop := 0 < l.length → ∃ g, A = some ⟨g, 0, none⟩ ∧ ∀ j, j < l.length → w.cell? ⟨g, j * 3, none⟩ = some (.int .i64 (l.getD j St0).a) ∧ w.cell? ⟨g, j * 3 + 1, none⟩ = some (.int .i64 (l.getD j St0).tr) ∧ w.cell? ⟨g, j * 3 + 2, none⟩ = some (.int .i64 (l.getD j St0).nx)
theorem SA.below {w w1 : World} {A : Option Addr} {l : List St} (h : SA w A l) (hb : Below w.heap.size w w1) : SA w1 A l := fun h0 => by
  obtain ⟨g, e, hc⟩ := h h0
  exact ⟨g, e, fun j hj => ⟨keep hb (hc j hj).1, keep hb (hc j hj).2.1, keep hb (hc j hj).2.2⟩⟩
theorem own_SA {w : World} {base e : Nat} {v : Value} {l : List St} (h : w.ownsRow base e 3 v l.length (stL l)) : v = .slice (sA v) l.length (sC v) ∧ SA w (sA v) l := by
  obtain ⟨h1, h2⟩ := own_parts h
  refine ⟨h1, fun h0 => ?_⟩
  obtain ⟨h3, h4⟩ := h2 h0
  rw [h3] at h1
  rw [h1] at h
  refine ⟨sG v, h3, fun j hj => ?_⟩
  have hc := fun i u (hu : (stL l)[i]? = some u) => h.cells (g := sG v) rfl i u hu
  have e : ∀ i, (⟨sG v, 0, none⟩ : Addr).add i = ⟨sG v, i, none⟩ := fun i => by rw [addr_add, Nat.zero_add]
  simp only [e] at hc
  obtain ⟨g1, g2, g3⟩ := stL_get l j hj
  exact ⟨hc _ _ g1, hc _ _ g2, hc _ _ g3⟩
def posN (t lo hi x : Int) : Nat := cnt t (fstP t lo x) hi
def posF (t lo x : Int) (j : Nat) : Int := fstP t lo x + t * j
theorem psL_eq (t lo hi x : Int) : psL t lo hi x = (List.range (posN t lo hi x)).map (posF t lo x) := rfl
set_option maxRecDepth 100000 in
set_option maxHeartbeats 2000000 in
theorem rpositions_any (t lo hi st ra x : Int) (w : World) (t1 : 1 ≤ t) (t2 : t ≤ 3600) (l1 : -20000 ≤ lo) (l2 : lo ≤ 20000) (h2 : hi ≤ 20000) (x1 : 0 ≤ x) (x2 : x ≤ 3600) :
    Calls Try.prog 56 #[.agg #[.int .i64 t, .int .i64 lo, .int .i64 hi, .int .i64 st, .int .i64 ra], .int .i64 x] w fun e w' => ∃ v, e = .returned v ∧ w'.ownsRow (w.heap.size + 1) 3 1 v (posN t lo hi x) (intsV (posN t lo hi x) (posF t lo x)) ∧ Below w.heap.size w w' := by
  have m0 := Int.emod_nonneg (x - lo) (show t ≠ 0 by omega)
  have m1 := Int.emod_lt_of_pos (x - lo) (show 0 < t by omega)
  have s1 : IntKind.i64.wrap (x - lo) = x - lo := IntWalk.i64_in _ (by omega)
  have s2 : IntKind.i64.wrap (lo + (x - lo) % t) = fstP t lo x := IntWalk.i64_in _ (by omega)
  have HM := fun W => (bmod_any (x - lo) t t1 (by omega) (by omega) (by omega) W).mono (fun _ _ h => And.intro h.1 h.2.symm)
  have hf1 : lo ≤ fstP t lo x := by unfold fstP; omega
  have hf2 : fstP t lo x < lo + t := by unfold fstP; omega
  have HPF : Hid (∀ j : Nat, posF t lo x j = fstP t lo x + t * j) := fun j => rfl
  have HC : Hid (∀ k : Nat, (∀ j : Nat, j < k → fstP t lo x + t * j ≤ hi) → hi < fstP t lo x + t * k → k = posN t lo hi x) := fun k q1 q2 => cnt_of t1 q1 q2
  generalize posN t lo hi x = m at *
  generalize posF t lo x = pf at *
  generalize fstP t lo x = F at *
  generalize (x - lo) % t = md at *
  clear m0 m1
  obtain ⟨i0, hi0, hz0, hz1, hz2⟩ := info_parts infoInt
  go_enter Try.func56, Try.ntmps56
  go_wp2_with fail
  go_quiet ((go_at_call 93; refine (HM _).mono (fun _ _ h => ⟨h.1, _, h.2⟩)))
  go_wp2_with fail
  go_loopw [5, 6] (fun s5 s6 wr => ∃ k : Nat, s6 = .int .i64 (F + t * k) ∧ wr.ownsRow (w.heap.size + 1) 3 1 s5 k (intsV k pf) ∧ (∀ j : Nat, j < k → F + t * j ≤ hi) ∧ (k : Int) ≤ 44001 ∧ Below w.heap.size w wr ∧ wr.cell? ⟨w.heap.size, 0, none⟩ = some (.int .i64 t) ∧ wr.cell? ⟨w.heap.size, 2, none⟩ = some (.int .i64 hi) ∧ w.heap.size + 1 ≤ wr.heap.size) (fun _ i _ => (20001 - intOf i).toNat)
  case atStart => exact ⟨0, by simp, World.ownsRow_nil _ _ _ _, fun j hj => absurd hj (Nat.not_lt_zero j), by omega, by (repeat (first | with_reducible exact Below.refl _ _ | with_reducible assumption | with_reducible refine Below.alloc ?_ (by first | (simp; done) | (simp; omega) | omega) _ | with_reducible refine Below.setCell ?_ (by first | (simp; done) | (simp; omega) | omega) _ | with_reducible refine Below.drew ?_ | with_reducible refine below_drewN ?_ _)), by simp [go_sem], by simp [go_sem], by simp⟩
  case round =>
    obtain ⟨k, rfl, hown, hall, hk, hbel, d0, d2, hws⟩ := hrel
    have hkt : (k : Int) ≤ t * k := by have := Int.mul_le_mul_of_nonneg_right t1 (Int.natCast_nonneg k); omega
    have hst : F + t * ((k + 1 : Nat) : Int) = F + t * k + t := by rw [Int.natCast_succ, Int.mul_add, Int.mul_one, Int.add_assoc]
    by_cases hlt : F + t * k ≤ hi
    · have HALL : Hid (∀ j : Nat, j < k + 1 → F + t * j ≤ hi) := (by intro j hj; rcases Nat.lt_succ_iff_lt_or_eq.1 hj with h | h; exact hall j h; rw [h]; exact hlt)
      have s6 : IntKind.i64.wrap (F + t * k + t) = F + t * k + t := IntWalk.i64_in _ (by omega)
      have HS : Hid (intsV (k + 1) pf = intsV k pf ++ [.int .i64 (F + t * k)]) := by unfold Hid; rw [intsV_s, HPF.out]
      clear s1 s2
      go_wp2_with (first
        | (at_builtin; refine wpList_append_own_at _ rfl _ _ 48 rfl (w.heap.size + 1) 3 i0 _ 1 8 undInts hi0 hz0 hz1 hz2 rfl (by decide) u5 _ _ rfl (hown.alloc _) ⟨wr.heap.size, 0, none⟩ 1 1 [.int .i64 (F + t * k)] rfl rfl (by simpa using news1 wr _ _) (by simp [Value.oneCell']) (by unfold maxLen; omega) (by omega) (by simp; omega) ?_; intro v' w1 hown' hgrow hnil hloc; rw [← HS.out] at hown'; have hownN := Lib.hid hown'; have hbelN := below_app hbel hws (fun k h => (hown.lt k h).1) hgrow; have e0 := cell_app hws d0 (fun k h => (hown.lt k h).1) hgrow; have e2 := cell_app hws d2 (fun k h => (hown.lt k h).1) hgrow; have hwsN : w.heap.size + 1 ≤ w1.heap.size := (by have := hgrow.size; simp at this; omega); clear hown' hgrow hnil hloc)
        | fail)
      go_roundw
      case rel => exact ⟨k + 1, by rw [hst], hownN.out, HALL.out, by omega, hbelN, e0, e2, hwsN⟩
      case measure => simp [intOf]; omega
    · obtain rfl : k = m := HC.out k hall (by omega)
      go_wp2_with fail
      go_ret
      exact ⟨_, rfl, hown, hbel⟩
/-! ### the best step -/
def outS (p : Int) : Option St → St
  | none => ⟨p, 0, 0⟩
  | some s => s
def stV (s : St) : Value := .agg #[.int .i64 s.a, .int .i64 s.tr, .int .i64 s.nx]
def BR (w : World) (_ _ _ _ ra p : Int) (o : Option St) (wr : World) : Prop :=
  (Below w.heap.size w wr ∧ w.heap.size + 3 ≤ wr.heap.size) ∧ wr.cell? ⟨w.heap.size, 4, none⟩ = some (.int .i64 ra) ∧
  (wr.cell? ⟨w.heap.size + 2, 0, none⟩ = some (.int .i64 (outS p o).a) ∧ wr.cell? ⟨w.heap.size + 2, 1, none⟩ = some (.int .i64 (outS p o).tr) ∧ wr.cell? ⟨w.heap.size + 2, 2, none⟩ = some (.int .i64 (outS p o).nx)) ∧
  (wr.frozen? ⟨w.heap.size + 2, 0, none⟩ = false ∧ wr.frozen? ⟨w.heap.size + 2, 1, none⟩ = false ∧ wr.frozen? ⟨w.heap.size + 2, 2, none⟩ = false) ∧
  ((∃ v, wr.cell? ⟨w.heap.size + 1, 0, none⟩ = some v) ∧ (∃ v, wr.cell? ⟨w.heap.size + 1, 1, none⟩ = some v) ∧ (∃ v, wr.cell? ⟨w.heap.size + 1, 2, none⟩ = some v)) ∧
  (wr.frozen? ⟨w.heap.size + 1, 0, none⟩ = false ∧ wr.frozen? ⟨w.heap.size + 1, 1, none⟩ = false ∧ wr.frozen? ⟨w.heap.size + 1, 2, none⟩ = false)
theorem BR.drew {w : World} {t lo hi st ra p : Int} {o : Option St} {wr : World} (h : BR w t lo hi st ra p o wr) (n : Nat) : BR w t lo hi st ra p o (wr.drewN n) := by
  have hb : Below wr.heap.size wr (wr.drewN n) := below_drewN (Below.refl _ _) n
  obtain ⟨⟨hbel, hws⟩, d3, ⟨o0, o1, o2⟩, ⟨f0, f1, f2⟩, ⟨⟨v0, z0⟩, ⟨v1, z1⟩, ⟨v2, z2⟩⟩, ⟨g0, g1, g2⟩⟩ := h
  have fz : ∀ b i, b < wr.heap.size → (wr.drewN n).frozen? ⟨b, i, none⟩ = wr.frozen? ⟨b, i, none⟩ := fun b i hlt => hb.frozen (p := ⟨b, i, none⟩) hlt
  exact ⟨⟨below_drewN hbel n, Nat.le_trans hws hb.size⟩, keep hb d3, ⟨keep hb o0, keep hb o1, keep hb o2⟩, ⟨(fz _ _ (lt_of o0)).trans f0, (fz _ _ (lt_of o1)).trans f1, (fz _ _ (lt_of o2)).trans f2⟩, ⟨⟨v0, keep hb z0⟩, ⟨v1, keep hb z1⟩, ⟨v2, keep hb z2⟩⟩, (fz _ _ (lt_of z0)).trans g0, (fz _ _ (lt_of z1)).trans g1, (fz _ _ (lt_of z2)).trans g2⟩
theorem BR.store {w : World} {t lo hi st ra p : Int} {o : Option St} {wr : World} (h : BR w t lo hi st ra p o wr) (s : St) : BR w t lo hi st ra p (some s) (((wr.setCell ⟨w.heap.size + 1 + 1, 0, none⟩ (.int .i64 s.a)).setCell ⟨w.heap.size + 1 + 1, 1, none⟩ (.int .i64 s.tr)).setCell ⟨w.heap.size + 1 + 1, 2, none⟩ (.int .i64 s.nx)) := by
  obtain ⟨⟨hbel, hws⟩, d3, ⟨o0, o1, o2⟩, ⟨f0, f1, f2⟩, ⟨⟨v0, z0⟩, ⟨v1, z1⟩, ⟨v2, z2⟩⟩, ⟨g0, g1, g2⟩⟩ := h
  have q : w.heap.size ≤ w.heap.size + 1 + 1 := by omega
  refine ⟨⟨((hbel.setCell q _).setCell q _).setCell q _, by simpa using hws⟩, ?_, ⟨?_, ?_, ?_⟩, ⟨by simpa using f0, by simpa using f1, by simpa using f2⟩, ⟨⟨v0, ?_⟩, ⟨v1, ?_⟩, ⟨v2, ?_⟩⟩, ⟨by simpa using g0, by simpa using g1, by simpa using g2⟩⟩
  all_goals (try simp only [outS])
  all_goals simp [go_sem, *]
set_option maxRecDepth 100000 in
set_option maxHeartbeats 800000 in
theorem rbest_end (t lo hi st ra p : Int) (A : Option Addr) (m c : Nat) (w : World) :
    Calls Try.prog 57 #[.agg #[.int .i64 t, .int .i64 lo, .int .i64 hi, .int .i64 st, .int .i64 ra], .slice A m c, .int .i64 p, .bool true] w fun e w' => e = .returned (.tuple #[stV ⟨p, 0, 0⟩, .bool true]) ∧ Below w.heap.size w w' := by
  go_enter Try.func57, Try.ntmps57
  go_wp2_with fail
  have hws : w.heap.size ≤ w.heap.size + 1 := by omega
  refine bodyPost_ret (v := .tuple #[.agg #[.int .i64 p, .int .i64 0, .int .i64 0], .bool true]) (by simp [results, Try.results57, go_sem]) rfl ⟨rfl, by (repeat (first | with_reducible exact Below.refl _ _ | with_reducible assumption | with_reducible refine Below.alloc ?_ (by first | (simp; done) | (simp; omega) | omega) _ | with_reducible refine Below.setCell ?_ (by first | (simp; done) | (simp; omega) | omega) _ | with_reducible refine Below.drew ?_ | with_reducible refine below_drewN ?_ _))⟩
set_option maxRecDepth 100000 in
set_option maxHeartbeats 4000000 in
theorem rbest_row (t lo hi st ra p : Int) (A : Option Addr) (c : Nat) (l : List St) (w : World) (hl : l.length ≤ 1000000) (hA : SA w A l) (p1 : -20000 ≤ p) (p2 : p ≤ 20000) (_ : 0 ≤ ra) (_ : ra ≤ 40000) (hb : ∀ j, j < l.length → (-20000 ≤ (l.getD j St0).a ∧ (l.getD j St0).a ≤ 20000) ∧ 0 ≤ (l.getD j St0).tr ∧ (l.getD j St0).tr ≤ 4000000) :
    Calls Try.prog 57 #[.agg #[.int .i64 t, .int .i64 lo, .int .i64 hi, .int .i64 st, .int .i64 ra], .slice A l.length c, .int .i64 p, .bool false] w fun e w' => e = .returned (.tuple #[stV (outS p (bstF ra p (fun k => l.getD k St0) l.length)), .bool (bstF ra p (fun k => l.getD k St0) l.length).isSome]) ∧ Below w.heap.size w w' := by
  have HA := Lib.hid hA
  have HB := Lib.hid hb
  clear hA hb
  obtain ⟨O, hO⟩ : ∃ O : Nat → Option St, O = bstF ra p (fun k => l.getD k St0) := ⟨_, rfl⟩
  have HO := Lib.hid hO
  rw [← hO]
  have hO0 : O 0 = none := by rw [hO]; rfl
  clear hO
  go_enter Try.func57, Try.ntmps57
  go_wp2_with fail
  go_loopw [11, 12] (fun s11 s12 wr => ∃ k : Nat, k ≤ l.length ∧ s12 = .int .i64 k ∧ s11 = .bool (O k).isSome ∧ BR w t lo hi st ra p (O k) wr) (fun _ i _ => l.length - (intOf i).toNat)
  case atStart =>
    refine ⟨0, Nat.zero_le _, rfl, by rw [hO0]; rfl, ?_⟩
    rw [hO0]
    exact ⟨⟨by have hws : w.heap.size ≤ w.heap.size + 1 + 1 := by omega
               (repeat (first | with_reducible exact Below.refl _ _ | with_reducible assumption | with_reducible refine Below.alloc ?_ (by first | (simp; done) | (simp; omega) | omega) _ | with_reducible refine Below.setCell ?_ (by first | (simp; done) | (simp; omega) | omega) _ | with_reducible refine Below.drew ?_ | with_reducible refine below_drewN ?_ _)), by simp⟩, by simp [go_sem], ⟨by simp [go_sem, outS], by simp [go_sem, outS], by simp [go_sem, outS]⟩, ⟨by simp [go_sem], by simp [go_sem], by simp [go_sem]⟩, ⟨⟨_, by simp [go_sem]; rfl⟩, ⟨_, by simp [go_sem]; rfl⟩, ⟨_, by simp [go_sem]; rfl⟩⟩, ⟨by simp [go_sem], by simp [go_sem], by simp [go_sem]⟩⟩
  case round =>
    clear hO0
    obtain ⟨k, hk, rfl, rfl, hBR⟩ := hrel
    have HBR := Lib.hid hBR
    obtain ⟨⟨hbel, hws⟩, d3, ⟨o0, o1, o2⟩, ⟨f0, f1, f2⟩, ⟨⟨v0, z0⟩, ⟨v1, z1⟩, ⟨v2, z2⟩⟩, ⟨g0, g1, g2⟩⟩ := hBR
    by_cases hlt : k < l.length
    · obtain ⟨bA, rfl, hcs⟩ := HA.out (by omega)
      obtain ⟨c0, c1, _⟩ := hcs k hlt
      clear hcs
      have hbA := lt_of c0
      replace c0 := keep hbel c0
      replace c1 := keep hbel c1
      obtain ⟨⟨a1, a2⟩, b1, b2⟩ := HB.out k hlt
      have HN : Hid (O (k + 1) = if ra < siz ((l.getD k St0).a - p) then O k else match O k with | none => some ⟨p, siz ((l.getD k St0).a - p) + (l.getD k St0).tr, k⟩ | some s => if siz ((l.getD k St0).a - p) + (l.getD k St0).tr < s.tr then some ⟨p, siz ((l.getD k St0).a - p) + (l.getD k St0).tr, k⟩ else some s) := by
        rw [HO.out]
        exact Lib.hid rfl
      generalize (l.getD k St0).a = a at *
      generalize (l.getD k St0).tr = r at *
      have s1 : IntKind.i64.wrap (a - p) = a - p := IntWalk.i64_in _ (by omega)
      have z1' := siz_nn (a - p)
      have z2' := siz_le (x := a - p) (b := 40000) (by omega) (by omega)
      have HSZ := fun W => bsize_any (a - p) (by omega) (by omega) W
      generalize siz (a - p) = mv at *
      have s2 : IntKind.i64.wrap (mv + r) = mv + r := IntWalk.i64_in _ (by omega)
      have q1 : (0 : Int) ≤ (k : Int) := by omega
      have q2 : (k : Int) < (l.length : Int) := by omega
      generalize O k = o at *
      by_cases hc : ra < mv
      · have HQ : Hid (O (k + 1) = o) := by rw [HN.out, if_pos hc]; exact Lib.hid rfl
        clear HN
        go_wp2_with (go_at_call 94; (with_reducible refine Calls.mono (HSZ _) ?_); rintro e w1 ⟨rfl, rfl⟩)
        go_roundw
        case rel => exact ⟨k + 1, by omega, by go_num, by rw [HQ.out], by rw [HQ.out]; exact HBR.out⟩
        case measure => simp [intOf]; omega
      · rw [if_neg hc] at HN
        cases o with
        | none =>
          have HQ : Hid (O (k + 1) = some ⟨p, mv + r, k⟩) := HN
          clear HN
          simp only [outS, Option.isSome_none] at o0 o1 o2 ⊢
          go_wp2_with (go_at_call 94; (with_reducible refine Calls.mono (HSZ _) ?_); rintro e w1 ⟨rfl, rfl⟩)
          go_quiet (fail)
          go_wp2_with fail
          go_roundw
          case rel => exact ⟨k + 1, by omega, by go_num, by rw [HQ.out]; rfl, by rw [HQ.out]; exact (HBR.out.drew _).store ⟨p, mv + r, k⟩⟩
          case measure => simp [intOf]; omega
        | some s =>
          obtain ⟨sa, str, snx⟩ := s
          simp only [outS, Option.isSome_some] at o0 o1 o2 ⊢
          by_cases hd : mv + r < str
          · have HQ : Hid (O (k + 1) = some ⟨p, mv + r, k⟩) := by rw [HN.out]; exact Lib.hid (if_pos hd)
            clear HN
            go_wp2_with (go_at_call 94; (with_reducible refine Calls.mono (HSZ _) ?_); rintro e w1 ⟨rfl, rfl⟩)
            go_quiet (fail)
            go_wp2_with fail
            go_roundw
            case rel => exact ⟨k + 1, by omega, by go_num, by rw [HQ.out]; rfl, by rw [HQ.out]; exact (HBR.out.drew _).store ⟨p, mv + r, k⟩⟩
            case measure => simp [intOf]; omega
          · have HQ : Hid (O (k + 1) = some ⟨sa, str, snx⟩) := by rw [HN.out]; exact Lib.hid (if_neg hd)
            clear HN
            go_wp2_with (go_at_call 94; (with_reducible refine Calls.mono (HSZ _) ?_); rintro e w1 ⟨rfl, rfl⟩)
            go_quiet (fail)
            go_wp2_with fail
            go_roundw
            case rel => exact ⟨k + 1, by omega, by go_num, by rw [HQ.out]; rfl, by rw [HQ.out]; exact HBR.out.drew _⟩
            case measure => simp [intOf]; omega
    · obtain rfl : k = l.length := by omega
      generalize hE : O l.length = o at *
      have HE := Lib.hid hE
      clear hE
      have hws1 : w.heap.size ≤ w.heap.size + 1 := by omega
      go_wp2_with fail
      refine bodyPost_ret (v := .tuple #[stV (outS p o), .bool o.isSome]) (by simp [results, Try.results57, go_sem, stV, *]) rfl ⟨by rw [HE.out], by (repeat (first | with_reducible exact Below.refl _ _ | with_reducible assumption | with_reducible refine Below.alloc ?_ (by first | (simp; done) | (simp; omega) | omega) _ | with_reducible refine Below.setCell ?_ (by first | (simp; done) | (simp; omega) | omega) _ | with_reducible refine Below.drew ?_ | with_reducible refine below_drewN ?_ _))⟩
end Go.Proofs.Ytmhcmiajikffpaa
