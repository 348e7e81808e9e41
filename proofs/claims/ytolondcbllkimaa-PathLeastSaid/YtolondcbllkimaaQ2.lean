/- Helpers: stops after none; the number of stops. -/
import Derived.Test.YtolondcbllkimaaQ
namespace Go.Proofs.Ytolondcbllkimaa
open Go.RowKit Go.Shelf Go.Sort
attribute [local go_sem] idx3_0 idx3_1 idx3_2 old1 fro1 old2 fro2 old3 fro3 old4 fro4 old5 fro5 old6 fro6 old7 fro7 old8 fro8 old9 fro9 old10 fro10 old11 fro11 old12 fro12
def cnt (t F H : Int) : Nat := if H < F then 0 else ((H - F) / t).toNat + 1
theorem cnt_of {t F H : Int} {k : Nat} (ht : 1 ≤ t) (h1 : ∀ j : Nat, j < k → F + t * j ≤ H) (h2 : H < F + t * k) : k = cnt t F H := by
  unfold cnt
  rcases k with _ | m
  · rw [if_pos (by simpa using h2)]
  · have h0 := h1 0 (by omega)
    have hm := h1 m (by omega)
    simp at h0
    rw [if_neg (by omega)]
    have e : (H - F) / t = (m : Int) := by
      apply Int.le_antisymm
      · exact Int.le_of_lt_add_one ((Int.ediv_lt_iff_lt_mul (by omega)).2 (by rw [Int.natCast_succ, Int.mul_comm] at h2; omega))
      · exact (Int.le_ediv_iff_mul_le (by omega)).2 (by rw [Int.mul_comm]; omega)
    rw [e]
    simp
set_option maxRecDepth 100000 in
set_option maxHeartbeats 2000000 in
theorem stopsAfter_0 (t lo hi st ra tg : Int) (A : Option Addr) (c : Nat) (w : World) :
    Calls Try.prog 125 #[.agg #[.int .i64 t, .int .i64 lo, .int .i64 hi, .int .i64 st, .int .i64 ra], .slice A 0 c, .int .i64 tg] w fun e w' => e = .returned (.slice none 0 0) ∧ Below w.heap.size w w' := by
  go_enter Try.func125, Try.ntmps125
  go_wp2_with fail
  go_ret
  exact ⟨rfl, by (repeat (first | with_reducible exact Below.refl _ _ | with_reducible assumption | with_reducible refine Below.alloc ?_ (by first | (simp; done) | (simp; omega) | omega) _ | with_reducible refine Below.setCell ?_ (by first | (simp; done) | (simp; omega) | omega) _ | with_reducible refine Below.drew ?_ | with_reducible refine below_drewN ?_ _))⟩
theorem stopsAfter_n (t lo hi st ra tg f0 fl : Int) (b off n c : Nat) (w : World) (h0 : 0 < n) (hn : n ≤ 1000000) (c0 : w.cell? ⟨b, off, none⟩ = some (.int .i64 f0)) (c1 : w.cell? ⟨b, off + (n - 1) * 2, none⟩ = some (.int .i64 fl))
    (t1 : 1 ≤ t) (t2 : t ≤ 3600) (l1 : -20000 ≤ lo) (l2 : lo ≤ 20000) (h1 : -20000 ≤ hi) (h2 : hi ≤ 20000) (f1 : -20000 ≤ f0) (f2 : f0 ≤ 20000) (f3 : -20000 ≤ fl) (f4 : fl ≤ 20000) (g1 : 0 ≤ tg) (g2 : tg ≤ 3600) :
    Calls Try.prog 125 #[.agg #[.int .i64 t, .int .i64 lo, .int .i64 hi, .int .i64 st, .int .i64 ra], .slice (some ⟨b, off, none⟩) n c, .int .i64 tg] w fun e w' => ∃ v, e = .returned v ∧ w'.ownsRow (w.heap.size + 1) 146 2 v (cnt t (firstAt t (max lo (f0 - t)) tg) (min hi (fl + t))) (stopL (firstAt t (max lo (f0 - t)) tg) t (cnt t (firstAt t (max lo (f0 - t)) tg) (min hi (fl + t)))) ∧ cnt t (firstAt t (max lo (f0 - t)) tg) (min hi (fl + t)) ≤ 50000 ∧ Below w.heap.size w w' :=
  (stopsAfter_o t lo hi st ra tg f0 fl _ _ b off n c w h0 hn (by simp; omega) c0 c1 rfl rfl t1 t2 l1 l2 h1 h2 f1 f2 f3 f4 g1 g2).mono (by
    rintro e w' ⟨v, k, rfl, ho, hk, ha, hl, hb⟩
    obtain rfl := cnt_of t1 ha hl
    exact ⟨v, rfl, ho, hk, hb⟩)
end Go.Proofs.Ytolondcbllkimaa
