/- Helpers: stops after. -/
import Derived.Test.YtolondcbllkimaaP
import Derived.OwnWalk
import Derived.Maps.AppendAt
namespace Go.Proofs.Ytolondcbllkimaa
open Go.RowKit Go.Shelf Go.Sort
attribute [local go_sem] idx3_0 idx3_1 idx3_2 old1 fro1 old2 fro2 old3 fro3 old4 fro4 old5 fro5 old6 fro6 old7 fro7 old8 fro8 old9 fro9 old10 fro10 old11 fro11 old12 fro12
theorem next_on (t x : Int) (ht : 1 ≤ t) : x ≤ t * (-(-x / t)) ∧ t * (-(-x / t)) < x + t := by
  have h1 := Int.mul_ediv_add_emod (-x) t
  have h2 := Int.emod_nonneg (-x) (show t ≠ 0 by omega)
  have h3 := Int.emod_lt_of_pos (-x) (show 0 < t by omega)
  rw [Int.mul_neg]
  omega
def stopL (a t : Int) (k : Nat) : List Value := (List.range k).flatMap fun (j : Nat) => [.int .i64 (a + t * j), .int .i64 0]
theorem stopL_s (a t : Int) (k : Nat) : stopL a t (k + 1) = stopL a t k ++ [.int .i64 (a + t * k), .int .i64 0] := by simp [stopL, List.range_succ, List.flatMap_append]
theorem infoStop : (Try.prog.info? 146).map (fun i => (i.zero, i.size, i.bytes)) = some (some (.agg #[.int .i64 0, .int .i64 0]), 2, 16) := by kernel_rfl
theorem undStops : Try.prog.underlying 142 = some (.slice 146) := by kernel_rfl
theorem news2 (w : World) (x y : Value) (t : TypeId) : ∀ j u, [x, y][j]? = some u → (w.alloc (.cells #[x, y] t)).cell? ((⟨w.heap.size, 0, none⟩ : Addr).add j) = some u := by
  intro j u hj
  match j, hj with
  | 0, hj => simp at hj; subst hj; simp [Addr.add]
  | 1, hj => simp at hj; subst hj; simp [Addr.add]
  | j + 2, hj => simp at hj
theorem below_app {a wr w1 : World} {o : Obj} {row : Option Nat} (h : Below a.heap.size a wr) (hs : a.heap.size + 1 ≤ wr.heap.size) (hr : ∀ k, row = some k → a.heap.size + 1 ≤ k) (hg : (wr.alloc o).grownBy w1 row) : Below a.heap.size a w1 :=
  (h.alloc (by omega) o).grown hg (by simp; omega) (fun k hk => by have := hr k hk; omega)
theorem cell_app {a wr w1 : World} {o : Obj} {row : Option Nat} {i : Nat} {v : Value} (hs : a.heap.size + 1 ≤ wr.heap.size) (d : wr.cell? ⟨a.heap.size, i, none⟩ = some v) (hr : ∀ k, row = some k → a.heap.size + 1 ≤ k) (hg : (wr.alloc o).grownBy w1 row) : w1.cell? ⟨a.heap.size, i, none⟩ = some v :=
  (World.cell?_of_block (hg.block a.heap.size (by simp; omega) (fun e => by have := hr _ e.symm; omega))).trans ((((Below.refl _ _).alloc (Nat.le_refl _) o).cell (p := ⟨a.heap.size, i, none⟩) (by show a.heap.size < wr.heap.size; omega)).trans d)
def firstAt (t M tg : Int) : Int := tg + t * (-(-(M - tg) / t))
set_option maxRecDepth 100000 in
set_option maxHeartbeats 2000000 in
theorem stopsAfter_o (t lo hi st ra tg f0 fl M H : Int) (b off n c : Nat) (w : World) (h0 : 0 < n) (hn : n ≤ 1000000) (hz : ((n : Int) == 0) = false) (c0 : w.cell? ⟨b, off, none⟩ = some (.int .i64 f0)) (c1 : w.cell? ⟨b, off + (n - 1) * 2, none⟩ = some (.int .i64 fl))
    (hM : max lo (f0 - t) = M) (hH : min hi (fl + t) = H)
    (t1 : 1 ≤ t) (t2 : t ≤ 3600) (l1 : -20000 ≤ lo) (l2 : lo ≤ 20000) (h1 : -20000 ≤ hi) (h2 : hi ≤ 20000) (f1 : -20000 ≤ f0) (f2 : f0 ≤ 20000) (f3 : -20000 ≤ fl) (f4 : fl ≤ 20000) (g1 : 0 ≤ tg) (g2 : tg ≤ 3600) :
    Calls Try.prog 125 #[.agg #[.int .i64 t, .int .i64 lo, .int .i64 hi, .int .i64 st, .int .i64 ra], .slice (some ⟨b, off, none⟩) n c, .int .i64 tg] w fun e w' => ∃ v k, e = .returned v ∧ w'.ownsRow (w.heap.size + 1) 146 2 v k (stopL (firstAt t M tg) t k) ∧ k ≤ 50000 ∧ (∀ j : Nat, j < k → firstAt t M tg + t * j ≤ H) ∧ H < firstAt t M tg + t * k ∧ Below w.heap.size w w' := by
  have hi1 : (0 : Int) ≤ (n : Int) - 1 := by omega
  have hi2 : (n : Int) - 1 < n := by omega
  have hi3 : ((n : Int) - 1).toNat = n - 1 := by omega
  have s0 : IntKind.i64.wrap ((n : Int) - 1) = (n : Int) - 1 := IntWalk.i64_in _ (by omega)
  have s1 : IntKind.i64.wrap (f0 - t) = f0 - t := IntWalk.i64_in _ (by omega)
  have s2 : IntKind.i64.wrap (fl + t) = fl + t := IntWalk.i64_in _ (by omega)
  have m1 : -24000 ≤ M ∧ M ≤ 20000 := by omega
  have m2 : H ≤ 20000 := by omega
  have s3 : IntKind.i64.wrap (M - tg) = M - tg := IntWalk.i64_in _ (by omega)
  obtain ⟨n1, n2⟩ := next_on t (M - tg) t1
  have hfa : firstAt t M tg = tg + t * (-(-(M - tg) / t)) := rfl
  have HCE := fun W => (ceiling_any (M - tg) t (by omega) (by omega) (by omega) (by omega) W).mono (fun _ _ h => And.intro h.1 h.2.symm)
  generalize hC : -(-(M - tg) / t) = C at *
  generalize hA : t * C = A at *
  have s4 : IntKind.i64.wrap (t * C) = A := by rw [hA]; exact IntWalk.i64_in _ (by omega)
  have s5 : IntKind.i64.wrap (tg + A) = firstAt t M tg := (IntWalk.i64_in _ (by omega)).trans hfa.symm
  generalize firstAt t M tg = F at *
  have HFA := Lib.hid hfa
  clear hfa
  obtain ⟨i0, hi0, hz0, hz1, hz2⟩ := info_parts infoStop
  go_enter Try.func125, Try.ntmps125
  go_wp2_with fail
  go_quiet (fail)
  go_wp2_with fail
  go_quiet (fail)
  go_wp2_with fail
  go_quiet ((go_at_call 52; refine (HCE _).mono (fun _ _ h => ⟨h.1, _, h.2⟩)))
  go_wp2_with fail
  go_loopw [9, 10] (fun s9 s10 wr => ∃ k : Nat, s10 = .int .i64 (F + t * k) ∧ wr.ownsRow (w.heap.size + 1) 146 2 s9 k (stopL F t k) ∧ (∀ j : Nat, j < k → F + t * j ≤ H) ∧ (k : Int) ≤ 44001 ∧ Below w.heap.size w wr ∧ wr.cell? ⟨w.heap.size, 0, none⟩ = some (.int .i64 t) ∧ w.heap.size + 1 ≤ wr.heap.size) (fun _ i _ => (20001 - intOf i).toNat)
  case atStart => exact ⟨0, by simp, World.ownsRow_nil _ _ _ _, fun j hj => absurd hj (Nat.not_lt_zero j), by omega, by (repeat (first | with_reducible exact Below.refl _ _ | with_reducible assumption | with_reducible refine Below.alloc ?_ (by first | (simp; done) | (simp; omega) | omega) _ | with_reducible refine Below.setCell ?_ (by first | (simp; done) | (simp; omega) | omega) _ | with_reducible refine Below.drew ?_ | with_reducible refine below_drewN ?_ _)), by simp [go_sem], by simp⟩
  case round =>
    obtain ⟨k, rfl, hown, hall, hk, hbel, d0, hws⟩ := hrel
    have hfa := HFA.out
    have hf1 : -24000 ≤ F := by omega
    have hf2 : F ≤ 40000 := by omega
    clear hfa
    have hkt : (k : Int) ≤ t * k := by have := Int.mul_le_mul_of_nonneg_right t1 (Int.natCast_nonneg k); omega
    have hst : F + t * ((k + 1 : Nat) : Int) = F + t * k + t := by rw [Int.natCast_succ, Int.mul_add, Int.mul_one, Int.add_assoc]
    by_cases hlt : F + t * k ≤ H
    · have HALL : Hid (∀ j : Nat, j < k + 1 → F + t * j ≤ H) := (by intro j hj; rcases Nat.lt_succ_iff_lt_or_eq.1 hj with h | h; exact hall j h; rw [h]; exact hlt)
      have s6 : IntKind.i64.wrap (F + t * k + t) = F + t * k + t := IntWalk.i64_in _ (by omega)
      go_wp2_with (first
        | (at_builtin; refine wpList_append_own_at _ rfl _ _ 142 rfl (w.heap.size + 1) 146 i0 _ 2 16 undStops hi0 hz0 hz1 hz2 rfl (by decide) u9 _ _ rfl (hown.alloc _) ⟨wr.heap.size, 0, none⟩ 1 1 [.int .i64 (F + t * k), .int .i64 0] rfl rfl (news2 _ _ _ _) (by simp [Value.oneCell']) (by unfold maxLen; omega) (by omega) (by simp; omega) ?_; intro v' w1 hown' hgrow hnil hloc; rw [← stopL_s] at hown'; have hownN := Lib.hid hown'; have hbelN := below_app hbel hws (fun k h => (hown.lt k h).1) hgrow; have d1 := cell_app hws d0 (fun k h => (hown.lt k h).1) hgrow; have hwsN : w.heap.size + 1 ≤ w1.heap.size := (by have := hgrow.size; simp at this; omega); clear hown' hgrow hnil hloc)
        | fail)
      go_roundw
      case rel => exact ⟨k + 1, by rw [hst], hownN.out, HALL.out, by omega, hbelN, d1, hwsN⟩
      case measure => simp [intOf]; omega
    · go_wp2_with fail
      go_ret
      exact ⟨_, rfl, k, hown, by omega, hall, by omega, hbel⟩
end Go.Proofs.Ytolondcbllkimaa
