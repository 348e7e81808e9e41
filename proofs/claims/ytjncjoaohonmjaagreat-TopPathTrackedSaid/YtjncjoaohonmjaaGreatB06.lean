/- Helpers: contracts of placeAt and of what it calls. -/
import Derived.Test.YtjncjoaohonmjaaGreatB00
import Derived.IntWalk
import Derived.Deep.RegionWith
import Derived.Deep.RegionHeld3
namespace Go.Proofs.YtjncjoaohonmjaaGreat
open Go.RowKit Go.Shelf Go.Sort
attribute [local go_sem] idx3_0 idx3_1 idx3_2 old1 fro1 old2 fro2 old3 fro3 old4 fro4 old5 fro5 old6 fro6 old7 fro7 old8 fro8 old9 fro9 old10 fro10 old11 fro11 old12 fro12
set_option maxRecDepth 100000 in
set_option maxHeartbeats 400000 in
theorem placeAt1_any (t x y z time : Int) (bt : Nat) (w : World) (h1 : w.cell? ⟨bt, 0, none⟩ = some (.int .i64 time)) (h2 : bt < w.heap.size) :
    Calls Tryz.prog 70 #[.agg #[.int .i64 t, .int .i64 x, .int .i64 y, .int .i64 z], .pointer (some ⟨bt, 0, none⟩)] w fun e w' => e = .returned (.bool (decide (time ≤ t))) ∧ Below w.heap.size w w' := by
  go_enter Tryz.func70, Tryz.ntmps70
  go_wp2
  go_ret
  exact ⟨rfl, by (repeat (first | with_reducible exact Below.refl _ _ | with_reducible assumption | with_reducible refine Below.alloc ?_ (by first | (simp; done) | (simp; omega) | omega) _ | with_reducible refine Below.setCell ?_ (by first | (simp; done) | (simp; omega) | omega) _ | with_reducible refine Below.drew ?_ | with_reducible refine below_drewN ?_ _))⟩
set_option maxRecDepth 100000 in
set_option maxHeartbeats 400000 in
theorem indexFunc_knot (g : Nat) (cb : Array Value) (n c : Nat) (b off : Nat) (kt kx ky kz : Nat → Int) (p : Nat → Bool) (w : World) (eg : ∀ args w, (callFunc g args).run Tryz.prog w = .ok (.enter g args) w) (hn : n ≤ 1000000)
    (hb : b < w.heap.size) (hc : ∀ i, i < n → w.cell? ⟨b, off + i * 4, none⟩ = some (.int .i64 (kt i)) ∧ w.cell? ⟨b, off + i * 4 + 1, none⟩ = some (.int .i64 (kx i)) ∧
    w.cell? ⟨b, off + i * 4 + 2, none⟩ = some (.int .i64 (ky i)) ∧ w.cell? ⟨b, off + i * 4 + 3, none⟩ = some (.int .i64 (kz i)))
    (hf : ∀ (i : Nat) (w1 : World), i < n → Below w.heap.size w w1 → Calls Tryz.prog g (#[.agg #[.int .i64 (kt i), .int .i64 (kx i), .int .i64 (ky i), .int .i64 (kz i)]] ++ cb) w1 fun e w' => e = .returned (.bool (p i)) ∧ Below w1.heap.size w1 w') :
    Calls Tryz.prog 69 #[.slice (some ⟨b, off, none⟩) n c, .func (.func g) #[] cb] w fun e w' => e = .returned (.int .i64 (fidx p n)) ∧ Below w.heap.size w w' := by
  have HF := Lib.hid hf
  have HC := Lib.hid hc
  clear hf hc
  go_enter Tryz.func69, Tryz.ntmps69
  go_wp2
  go_loopw [8] (fun i wr => ∃ k : Nat, k ≤ n ∧ i = .int .i64 k ∧ Below w.heap.size w wr ∧ Hid (∀ j, j < k → p j = false)) (fun i _ => n - (intOf i).toNat)
  case atStart => exact ⟨0, Nat.zero_le _, rfl, Below.refl _ _, fun j hj => absurd hj (Nat.not_lt_zero _)⟩
  case round =>
    obtain ⟨k, hk, rfl, hbel, H⟩ := hrel
    by_cases hlt : k < n
    · obtain ⟨e1, e2, e3, e4⟩ := HC.out k hlt
      rw [← hbel.cell (p := ⟨b, off + k * 4, none⟩) hb] at e1
      rw [← hbel.cell (p := ⟨b, off + k * 4 + 1, none⟩) hb] at e2
      rw [← hbel.cell (p := ⟨b, off + k * 4 + 2, none⟩) hb] at e3
      rw [← hbel.cell (p := ⟨b, off + k * 4 + 3, none⟩) hb] at e4
      have hcon := HF.out k wr hlt hbel
      have hsz := hbel.size
      have HB := Lib.hid hbel
      clear hbel
      cases hp : p k <;> rw [hp] at hcon <;> have HP := Lib.hid hp <;> clear hp
      · go_wp2_with (go_at_fn g; refine hcon.mono ?_; rintro e w1 ⟨rfl, hb1⟩)
        go_roundw
        case rel => exact ⟨k + 1, by omega, by go_num, HB.out.trans (hb1.mono hsz), fun j hj => (by
          rcases Nat.lt_or_eq_of_le (Nat.le_of_lt_succ hj) with h | h
          · exact H.out j h
          · rw [h]; exact HP.out)⟩
        case measure => simp [intOf]; omega
      · go_wp2_with (go_at_fn g; refine hcon.mono ?_; rintro e w1 ⟨rfl, hb1⟩)
        go_ret
        exact ⟨ret_int (fidx_hit hlt HP.out H.out).symm, HB.out.trans (hb1.mono hsz)⟩
    · obtain rfl : k = n := by omega
      have HB := Lib.hid hbel
      clear hbel
      go_wp2
      go_ret
      exact ⟨ret_int (fidx_miss H.out).symm, HB.out⟩
set_option maxRecDepth 100000 in
set_option maxHeartbeats 800000 in
theorem placeAt_eq (b off n c : Nat) (d time : Int) (w : World) (kt kx ky kz : Nat → Int) (m : Nat) (hn : n ≤ 100) (hb : b < w.heap.size)
    (hc : ∀ i, i < n → w.cell? ⟨b, off + i * 4, none⟩ = some (.int .i64 (kt i)) ∧ w.cell? ⟨b, off + i * 4 + 1, none⟩ = some (.int .i64 (kx i)) ∧
      w.cell? ⟨b, off + i * 4 + 2, none⟩ = some (.int .i64 (ky i)) ∧ w.cell? ⟨b, off + i * 4 + 3, none⟩ = some (.int .i64 (kz i)))
    (hm : m < n) (hge : time = kt m) (hlt : ∀ j, j < m → kt j < time) :
    Calls Tryz.prog 32 #[.agg #[.slice (some ⟨b, off, none⟩) n c, .int .i64 d], .int .i64 time] w fun e w' => e = .returned (.agg #[.int .i64 (kx m), .int .i64 (ky m), .int .i64 (kz m), .int .i64 1]) ∧ Below w.heap.size w w' := by
  have HI := Lib.hid (indexFunc_knot 70 #[.pointer (some ⟨w.heap.size + 1, 0, none⟩)] n c b off kt kx ky kz (fun i => decide (time ≤ kt i))
    (((w.alloc (.cells #[.slice (some ⟨b, off, none⟩) n c, .int .i64 d] 29)).alloc (.cells #[.int .i64 time] 3)).alloc (.cells #[.int .i64 0, .int .i64 0, .int .i64 0, .int .i64 0] 75))
    (enters_of Tryz.func70 (by kernel_rfl) rfl) (by omega) (by simp; omega) (fun i hi => by have := hc i hi; simp [go_sem, this])
    (fun i w1 hi hb1 => placeAt1_any _ _ _ _ time _ w1 (by rw [hb1.cell (by first | (simp; done) | (simp; omega) | omega)]; simp [go_sem]) (by have := hb1.size; simp at this; omega)))
  rw [fidx_hit hm (by simp [hge]) (fun j hj => by have := hlt j hj; simp; omega)] at HI
  obtain ⟨e1, e2, e3, e4⟩ := hc m hm
  clear hc
  have hq : (kt m == time) = true := by simp [hge]
  clear hge hlt
  go_enter Tryz.func32, Tryz.ntmps32
  go_wp2_with (first | (go_at_call 69; refine HI.out.mono ?_; rintro e w1 ⟨rfl, hb1⟩; have g1 := (hb1.cell (p := ⟨w.heap.size, 0, none⟩) (by first | (simp; done) | (simp; omega) | omega)).trans (show _ = some (Value.slice (some ⟨b, off, none⟩) n c) by simp [go_sem, *]); have g2 := (hb1.cell (p := ⟨w.heap.size + 1, 0, none⟩) (by first | (simp; done) | (simp; omega) | omega)).trans (show _ = some (Value.int .i64 time) by simp [go_sem, *]); have f1 := (hb1.cell (p := ⟨b, off + m * 4, none⟩) (by first | (simp; done) | (simp; omega) | omega)).trans (show _ = some (Value.int .i64 (kt m)) by simp [go_sem, *]); have f2 := (hb1.cell (p := ⟨b, off + m * 4 + 1, none⟩) (by first | (simp; done) | (simp; omega) | omega)).trans (show _ = some (Value.int .i64 (kx m)) by simp [go_sem, *]); have f3 := (hb1.cell (p := ⟨b, off + m * 4 + 2, none⟩) (by first | (simp; done) | (simp; omega) | omega)).trans (show _ = some (Value.int .i64 (ky m)) by simp [go_sem, *]); have f4 := (hb1.cell (p := ⟨b, off + m * 4 + 3, none⟩) (by first | (simp; done) | (simp; omega) | omega)).trans (show _ = some (Value.int .i64 (kz m)) by simp [go_sem, *]); have x0 := (hb1.cell (p := ⟨w.heap.size + 1 + 1, 0, none⟩) (by first | (simp; done) | (simp; omega) | omega)).trans (show _ = some (Value.int .i64 0) by simp [go_sem, *]); have y0 := (hb1.frozen (p := ⟨w.heap.size + 1 + 1, 0, none⟩) (by first | (simp; done) | (simp; omega) | omega)).trans (show _ = false by simp [go_sem, *]); have x1 := (hb1.cell (p := ⟨w.heap.size + 1 + 1, 1, none⟩) (by first | (simp; done) | (simp; omega) | omega)).trans (show _ = some (Value.int .i64 0) by simp [go_sem, *]); have y1 := (hb1.frozen (p := ⟨w.heap.size + 1 + 1, 1, none⟩) (by first | (simp; done) | (simp; omega) | omega)).trans (show _ = false by simp [go_sem, *]); have x2 := (hb1.cell (p := ⟨w.heap.size + 1 + 1, 2, none⟩) (by first | (simp; done) | (simp; omega) | omega)).trans (show _ = some (Value.int .i64 0) by simp [go_sem, *]); have y2 := (hb1.frozen (p := ⟨w.heap.size + 1 + 1, 2, none⟩) (by first | (simp; done) | (simp; omega) | omega)).trans (show _ = false by simp [go_sem, *]); have x3 := (hb1.cell (p := ⟨w.heap.size + 1 + 1, 3, none⟩) (by first | (simp; done) | (simp; omega) | omega)).trans (show _ = some (Value.int .i64 0) by simp [go_sem, *]); have y3 := (hb1.frozen (p := ⟨w.heap.size + 1 + 1, 3, none⟩) (by first | (simp; done) | (simp; omega) | omega)).trans (show _ = false by simp [go_sem, *]); have HB := Lib.hid hb1; clear hb1 HI e1 e2 e3 e4) | (go_at_call 71; refine (components_any _ _ _ _).mono ?_; rintro e w1 ⟨rfl, o1, o2, rfl⟩))
  refine bodyPost_ret (v := .agg #[.int .i64 (kx m), .int .i64 (ky m), .int .i64 (kz m), .int .i64 1]) (by simp [results, Tryz.results32, go_sem, x0, x1, x2, x3]) rfl ⟨rfl, ?_⟩
  have hB : Below w.heap.size w w1 := (by (repeat (first | with_reducible exact Below.refl _ _ | with_reducible assumption | with_reducible refine Below.alloc ?_ (by first | (simp; done) | (simp; omega) | omega) _ | with_reducible refine Below.setCell ?_ (by first | (simp; done) | (simp; omega) | omega) _ | with_reducible refine Below.drew ?_ | with_reducible refine below_drewN ?_ _)) : Below w.heap.size w _).trans (HB.out.mono (by first | (simp; done) | (simp; omega) | omega))
  have hs := hB.size
  (repeat (first | with_reducible exact Below.refl _ _ | with_reducible assumption | with_reducible refine Below.alloc ?_ (by first | (simp; done) | (simp; omega) | omega) _ | with_reducible refine Below.setCell ?_ (by first | (simp; done) | (simp; omega) | omega) _ | with_reducible refine Below.drew ?_ | with_reducible refine below_drewN ?_ _))
end Go.Proofs.YtjncjoaohonmjaaGreat
