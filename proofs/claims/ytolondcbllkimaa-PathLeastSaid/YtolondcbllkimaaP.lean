/- Helpers: the least travel through stops. -/
import Derived.Test.YtolondcbllkimaaO2
namespace Go.Proofs.Ytolondcbllkimaa
open Go.RowKit Go.Shelf Go.Sort
attribute [local go_sem] idx3_0 idx3_1 idx3_2 old1 fro1 old2 fro2 old3 fro3 old4 fro4 old5 fro5 old6 fro6 old7 fro7 old8 fro8 old9 fro9 old10 fro10 old11 fro11 old12 fro12
def tv (ra fr a r : Int) : Int := if ra < siz (a - fr) ∨ r = -1 then -1 else siz (a - fr) + r
set_option maxRecDepth 100000 in
set_option maxHeartbeats 800000 in
theorem travelVia_any (t lo hi st ra fr a r : Int) (w : World) (h1 : -100000 ≤ a - fr) (h2 : a - fr ≤ 100000) (h3 : -1 ≤ r) (h4 : r ≤ 100000000) :
    Calls Try.prog 115 #[.agg #[.int .i64 t, .int .i64 lo, .int .i64 hi, .int .i64 st, .int .i64 ra], .int .i64 fr, .agg #[.int .i64 a, .int .i64 r]] w fun e w' => e = .returned (.int .i64 (tv ra fr a r)) ∧ ∃ o1 o2, w' = (w.alloc o1).alloc o2 := by
  have s1 := siz_nn (a - fr)
  have s2 := siz_le h1 h2
  by_cases c1 : ra < siz (a - fr)
  · have e : tv ra fr a r = -1 := by unfold tv; rw [if_pos (.inl c1)]
    rw [e]
    go_enter Try.func115, Try.ntmps115
    go_wp2_with (go_at_call 63; refine (size_any _ (by omega) (by omega) _).mono ?_; rintro e w' ⟨rfl, rfl⟩)
    go_ret
    exact ⟨rfl, _, _, rfl⟩
  · by_cases c2 : r = -1
    · have e : tv ra fr a r = -1 := by unfold tv; rw [if_pos (.inr c2)]
      rw [e]
      have hq : (r == -1) = true := by simp [c2]
      clear c2
      go_enter Try.func115, Try.ntmps115
      go_wp2_with (go_at_call 63; refine (size_any _ (by omega) (by omega) _).mono ?_; rintro e w' ⟨rfl, rfl⟩)
      go_ret
      exact ⟨rfl, _, _, rfl⟩
    · have e : tv ra fr a r = siz (a - fr) + r := by unfold tv; rw [if_neg (by omega)]
      rw [e]
      have hq : (r == -1) = false := by simp [c2]
      clear c2
      go_enter Try.func115, Try.ntmps115
      go_wp2_with (go_at_call 63; refine (size_any _ (by omega) (by omega) _).mono ?_; rintro e w' ⟨rfl, rfl⟩)
      go_ret
      exact ⟨rfl, _, _, rfl⟩
def mrStep (best n : Int) : Int := if n ≠ -1 ∧ (best = -1 ∨ n < best) then n else best
def mr (ra fr : Int) (at_ re : Nat → Int) : Nat → Int
  | 0 => -1
  | k + 1 => mrStep (mr ra fr at_ re k) (tv ra fr (at_ k) (re k))
theorem mrStep_t {b n : Int} (h1 : n ≠ -1) (h2 : b = -1 ∨ n < b) : mrStep b n = n := by unfold mrStep; rw [if_pos ⟨h1, h2⟩]
theorem mrStep_f {b n : Int} (h : ¬ (n ≠ -1 ∧ (b = -1 ∨ n < b))) : mrStep b n = b := by unfold mrStep; rw [if_neg h]
set_option maxRecDepth 100000 in
set_option maxHeartbeats 2000000 in
theorem minimumRest_m (t lo hi st ra fr : Int) (b off n c : Nat) (at_ re : Nat → Int) (w : World) (hn : n ≤ 1000000) (hb : b < w.heap.size)
    (hc : ∀ i, i < n → w.cell? ⟨b, off + i * 2, none⟩ = some (.int .i64 (at_ i)) ∧ w.cell? ⟨b, off + i * 2 + 1, none⟩ = some (.int .i64 (re i)))
    (hr : ∀ i, i < n → (-100000 ≤ at_ i - fr ∧ at_ i - fr ≤ 100000) ∧ (-1 ≤ re i ∧ re i ≤ 100000000)) :
    Calls Try.prog 112 #[.agg #[.int .i64 t, .int .i64 lo, .int .i64 hi, .int .i64 st, .int .i64 ra], .int .i64 fr, .slice (some ⟨b, off, none⟩) n c] w fun e w' => e = .returned (.int .i64 (mr ra fr at_ re n)) ∧ Below w.heap.size w w' := by
  have HC := Lib.hid hc
  have HR := Lib.hid hr
  clear hc hr
  go_enter Try.func112, Try.ntmps112
  go_wp2_with fail
  go_loopw [7, 13] (fun s7 i wr => ∃ k : Nat, k ≤ n ∧ i = .int .i64 k ∧ s7 = .int .i64 (mr ra fr at_ re k) ∧ Below w.heap.size w wr ∧ wr.cell? ⟨w.heap.size, 0, none⟩ = some (.int .i64 t) ∧ wr.cell? ⟨w.heap.size, 1, none⟩ = some (.int .i64 lo) ∧ wr.cell? ⟨w.heap.size, 2, none⟩ = some (.int .i64 hi) ∧ wr.cell? ⟨w.heap.size, 3, none⟩ = some (.int .i64 st) ∧ wr.cell? ⟨w.heap.size, 4, none⟩ = some (.int .i64 ra)) (fun _ i _ => n - (intOf i).toNat)
  case atStart => exact ⟨0, Nat.zero_le _, rfl, rfl, by (repeat (first | with_reducible exact Below.refl _ _ | with_reducible assumption | with_reducible refine Below.alloc ?_ (by first | (simp; done) | (simp; omega) | omega) _ | with_reducible refine Below.setCell ?_ (by first | (simp; done) | (simp; omega) | omega) _ | with_reducible refine Below.drew ?_ | with_reducible refine below_drewN ?_ _)), by simp [go_sem], by simp [go_sem], by simp [go_sem], by simp [go_sem], by simp [go_sem]⟩
  case round =>
    obtain ⟨k, hk, rfl, rfl, hbel, d0, d1, d2, d3, d4⟩ := hrel
    by_cases hlt : k < n
    · obtain ⟨e1, e2⟩ := HC.out k hlt
      rw [← hbel.cell (p := ⟨b, off + k * 2, none⟩) hb] at e1
      rw [← hbel.cell (p := ⟨b, off + k * 2 + 1, none⟩) hb] at e2
      obtain ⟨⟨q1, q2⟩, ⟨q3, q4⟩⟩ := HR.out k hlt
      have hws := hbel.size
      have HM : Hid (mr ra fr at_ re (k + 1) = mrStep (mr ra fr at_ re k) (tv ra fr (at_ k) (re k))) := rfl
      have HT := fun W => Lib.hid (travelVia_any t lo hi st ra fr (at_ k) (re k) W q1 q2 q3 q4)
      generalize tv ra fr (at_ k) (re k) = v at *
      generalize mr ra fr at_ re k = bk at *
      generalize hM1 : mr ra fr at_ re (k + 1) = bk1 at *
      have HM1 := Lib.hid hM1
      clear hM1
      clear q1 q2 q3 q4
      by_cases hv : v = -1
      · have g1 : (v != -1) = false := by simp [hv]
        have HE : Hid (bk1 = bk) := by rw [show bk1 = _ from HM.out]; exact mrStep_f (by simp [hv])
        clear hv HM
        go_wp2_with (go_at_call 115; (with_reducible refine Calls.mono (HT _).out ?_); rintro e w1 ⟨rfl, o1, o2, rfl⟩)
        go_roundw
        case rel => exact ⟨k + 1, by omega, by go_num, by rw [HM1.out, HE.out], by (repeat (first | with_reducible exact Below.refl _ _ | with_reducible assumption | with_reducible refine Below.alloc ?_ (by first | (simp; done) | (simp; omega) | omega) _ | with_reducible refine Below.setCell ?_ (by first | (simp; done) | (simp; omega) | omega) _ | with_reducible refine Below.drew ?_ | with_reducible refine below_drewN ?_ _)), by simp [go_sem, *], by simp [go_sem, *], by simp [go_sem, *], by simp [go_sem, *], by simp [go_sem, *]⟩
        case measure => simp [intOf]; omega
      · have g1 : (v != -1) = true := by simp [hv]
        by_cases hb1 : bk = -1
        · have g2 : (bk == -1) = true := by simp [hb1]
          have HE : Hid (bk1 = v) := by rw [show bk1 = _ from HM.out]; exact mrStep_t hv (.inl hb1)
          clear hv hb1 HM
          go_wp2_with (go_at_call 115; (with_reducible refine Calls.mono (HT _).out ?_); rintro e w1 ⟨rfl, o1, o2, rfl⟩)
          go_roundw
          case rel => exact ⟨k + 1, by omega, by go_num, by rw [HM1.out, HE.out], by (repeat (first | with_reducible exact Below.refl _ _ | with_reducible assumption | with_reducible refine Below.alloc ?_ (by first | (simp; done) | (simp; omega) | omega) _ | with_reducible refine Below.setCell ?_ (by first | (simp; done) | (simp; omega) | omega) _ | with_reducible refine Below.drew ?_ | with_reducible refine below_drewN ?_ _)), by simp [go_sem, *], by simp [go_sem, *], by simp [go_sem, *], by simp [go_sem, *], by simp [go_sem, *]⟩
          case measure => simp [intOf]; omega
        · have g2 : (bk == -1) = false := by simp [hb1]
          by_cases hl : v < bk
          · have HE : Hid (bk1 = v) := by rw [show bk1 = _ from HM.out]; exact mrStep_t hv (.inr hl)
            clear hv hb1 HM
            go_wp2_with (go_at_call 115; (with_reducible refine Calls.mono (HT _).out ?_); rintro e w1 ⟨rfl, o1, o2, rfl⟩)
            go_roundw
            case rel => exact ⟨k + 1, by omega, by go_num, by rw [HM1.out, HE.out], by (repeat (first | with_reducible exact Below.refl _ _ | with_reducible assumption | with_reducible refine Below.alloc ?_ (by first | (simp; done) | (simp; omega) | omega) _ | with_reducible refine Below.setCell ?_ (by first | (simp; done) | (simp; omega) | omega) _ | with_reducible refine Below.drew ?_ | with_reducible refine below_drewN ?_ _)), by simp [go_sem, *], by simp [go_sem, *], by simp [go_sem, *], by simp [go_sem, *], by simp [go_sem, *]⟩
            case measure => simp [intOf]; omega
          · have HE : Hid (bk1 = bk) := by rw [show bk1 = _ from HM.out]; exact mrStep_f (by intro h; rcases h.2 with h2 | h2 <;> omega)
            clear hv hb1 HM
            go_wp2_with (go_at_call 115; (with_reducible refine Calls.mono (HT _).out ?_); rintro e w1 ⟨rfl, o1, o2, rfl⟩)
            go_roundw
            case rel => exact ⟨k + 1, by omega, by go_num, by rw [HM1.out, HE.out], by (repeat (first | with_reducible exact Below.refl _ _ | with_reducible assumption | with_reducible refine Below.alloc ?_ (by first | (simp; done) | (simp; omega) | omega) _ | with_reducible refine Below.setCell ?_ (by first | (simp; done) | (simp; omega) | omega) _ | with_reducible refine Below.drew ?_ | with_reducible refine below_drewN ?_ _)), by simp [go_sem, *], by simp [go_sem, *], by simp [go_sem, *], by simp [go_sem, *], by simp [go_sem, *]⟩
            case measure => simp [intOf]; omega
    · obtain rfl : k = n := by omega
      go_wp2
      go_ret
      exact ⟨rfl, hbel⟩
end Go.Proofs.Ytolondcbllkimaa
