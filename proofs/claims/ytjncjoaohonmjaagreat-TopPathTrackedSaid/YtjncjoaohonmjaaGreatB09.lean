/- Helpers: contracts of sort.Search and of least (the binary search over whole numbers), for any closure that answers as the hypotheses say and changes no memory that was there. -/
import Derived.Test.YtjncjoaohonmjaaGreatB00
import Derived.IntWalk
import Derived.Deep.RegionWith
namespace Go.Proofs.YtjncjoaohonmjaaGreat
open Go.RowKit Go.Shelf Go.Sort
def SR (p : Nat → Bool) (n r : Nat) : Prop := r ≤ n ∧ (r = 0 ∨ p (r - 1) = false) ∧ (r = n ∨ p r = true)
def SomeR (p : Nat → Bool) (n : Nat) (w : World) (e : Ending) (w' : World) : Prop := ∃ r : Nat, e = .returned (.int .i64 r) ∧ SR p n r ∧ Below w.heap.size w w'
set_option maxRecDepth 100000 in
set_option maxHeartbeats 4000000 in
theorem search_any (g : Nat) (cb : Array Value) (n : Nat) (p : Nat → Bool) (w : World) (eg : ∀ args w, (callFunc g args).run Tryz.prog w = .ok (.enter g args) w) (hn : n < 4611686018427387904)
    (hf : ∀ (i : Nat) (w1 : World), i < n → Below w.heap.size w w1 → Calls Tryz.prog g (#[.int .i64 i] ++ cb) w1 fun e w' => e = .returned (.bool (p i)) ∧ Below w1.heap.size w1 w') :
    Calls Tryz.prog 95 #[.int .i64 n, .func (.func g) #[] cb] w (SomeR p n w) := by
  have HF := Lib.hid hf
  clear hf
  go_enter Tryz.func95, Tryz.ntmps95
  go_wp2
  go_loopw [5, 6] (fun s5 s6 wr => ∃ (lo hi : Nat), s5 = .int .i64 lo ∧ s6 = .int .i64 hi ∧ lo ≤ hi ∧ hi ≤ n ∧ Below w.heap.size w wr ∧ Hid ((lo = 0 ∨ p (lo - 1) = false) ∧ (hi = n ∨ p hi = true))) (fun s5 s6 _ => (intOf s6 - intOf s5).toNat)
  case atStart => exact ⟨0, n, rfl, rfl, Nat.zero_le _, Nat.le_refl _, Below.refl _ _, ⟨.inl rfl, .inl rfl⟩⟩
  case round =>
    obtain ⟨lo, hi, rfl, rfl, hlh, hin, hbel, I⟩ := hrel
    by_cases hlt : lo < hi
    · have hc := HF.out ((lo + hi) / 2) wr (by omega) hbel
      have hsz := hbel.size
      have HB := Lib.hid hbel
      clear hbel
      rw [show (((lo + hi) / 2 : Nat) : Int) = ((lo : Int) + (hi : Int)) / 2 by omega] at hc
      cases hp : p ((lo + hi) / 2) <;> rw [hp] at hc <;> have HP := Lib.hid hp <;> clear hp
      · go_wp2_with (go_at_fn g; refine hc.mono ?_; rintro e w1 ⟨rfl, hb1⟩)
        go_roundw
        case rel => exact ⟨(lo + hi) / 2 + 1, hi, by rw [show ((lo : Int) + (hi : Int)) / 2 + 1 = (((lo + hi) / 2 + 1 : Nat) : Int) by omega], rfl, by omega, hin, HB.out.trans (hb1.mono hsz), ⟨.inr (by rw [Nat.add_sub_cancel]; exact HP.out), I.out.2⟩⟩
        case measure => simp [intOf]; omega
      · go_wp2_with (go_at_fn g; refine hc.mono ?_; rintro e w1 ⟨rfl, hb1⟩)
        go_roundw
        case rel => exact ⟨lo, (lo + hi) / 2, rfl, by rw [show ((lo : Int) + (hi : Int)) / 2 = (((lo + hi) / 2 : Nat) : Int) by omega], by omega, by omega, HB.out.trans (hb1.mono hsz), ⟨I.out.1, .inr HP.out⟩⟩
        case measure => simp [intOf]; omega
    · obtain rfl : hi = lo := by omega
      have HB := Lib.hid hbel
      clear hbel
      go_wp2
      go_ret
      exact ⟨_, rfl, ⟨hin, I.out.1, I.out.2⟩, HB.out⟩
def SomeL (p : Int → Bool) (lo hi : Int) (w : World) (e : Ending) (w' : World) : Prop :=
  ∃ r : Int, e = .returned (.int .i64 r) ∧ (lo ≤ r ∧ r ≤ hi + 1 ∧ (r = lo ∨ p (r - 1) = false) ∧ (r = hi + 1 ∨ p r = true)) ∧ Below w.heap.size w w'
set_option maxRecDepth 100000 in
set_option maxHeartbeats 400000 in
theorem least1_any (g bl bh : Nat) (cb : Array Value) (lo i : Int) (b : Bool) (w : World) (h1 : w.cell? ⟨bh, 0, none⟩ = some (.func (.func g) #[] cb)) (h2 : w.cell? ⟨bl, 0, none⟩ = some (.int .i64 lo))
    (eg : ∀ args w, (callFunc g args).run Tryz.prog w = .ok (.enter g args) w) (b1 : -1152921504606846976 ≤ lo) (b2 : lo ≤ 1152921504606846976) (b3 : 0 ≤ i) (b4 : i ≤ 2305843009213693952)
    (hf : Calls Tryz.prog g (#[.int .i64 (lo + i)] ++ cb) w fun e w' => e = .returned (.bool b) ∧ Below w.heap.size w w') :
    Calls Tryz.prog 96 #[.int .i64 i, .pointer (some ⟨bh, 0, none⟩), .pointer (some ⟨bl, 0, none⟩)] w fun e w' => e = .returned (.bool b) ∧ Below w.heap.size w w' := by
  have HF := Lib.hid hf
  clear hf
  go_enter Tryz.func96, Tryz.ntmps96
  go_wp2_with (go_at_fn g; refine HF.out.mono ?_; rintro e w1 ⟨rfl, hb1⟩; have HB := Lib.hid hb1; clear hb1)
  go_ret
  exact ⟨rfl, HB.out⟩
set_option maxRecDepth 100000 in
set_option maxHeartbeats 400000 in
theorem least_any (g : Nat) (cb : Array Value) (lo hi : Int) (p : Int → Bool) (w : World) (eg : ∀ args w, (callFunc g args).run Tryz.prog w = .ok (.enter g args) w)
    (b1 : -1152921504606846976 ≤ lo) (b2 : lo ≤ hi + 1) (b3 : hi ≤ 1152921504606846975)
    (hf : ∀ (r : Int) (w1 : World), lo ≤ r → r ≤ hi → Below w.heap.size w w1 → Calls Tryz.prog g (#[.int .i64 r] ++ cb) w1 fun e w' => e = .returned (.bool (p r)) ∧ Below w1.heap.size w1 w') :
    Calls Tryz.prog 44 #[.int .i64 lo, .int .i64 hi, .func (.func g) #[] cb] w (SomeL p lo hi w) := by
  have hn : (hi - lo + 1).toNat = hi - lo + 1 := by omega
  have HS := Lib.hid (search_any 96 #[.pointer (some ⟨w.heap.size + 1, 0, none⟩), .pointer (some ⟨w.heap.size, 0, none⟩)] (hi - lo + 1).toNat (fun i => p (lo + i))
    ((w.alloc (.cells #[.int .i64 lo] 3)).alloc (.cells #[.func (.func g) #[] cb] 91)).drew (enters_of Tryz.func96 (by kernel_rfl) rfl) (by omega)
    (fun i w1 hi hb => least1_any g w.heap.size (w.heap.size + 1) cb lo i _ w1 (by rw [hb.cell (by first | (simp; done) | (simp; omega) | omega)]; simp [go_sem]) (by rw [hb.cell (by first | (simp; done) | (simp; omega) | omega)]; simp [go_sem]) eg b1 (by omega) (by omega) (by omega)
      (hf (lo + i) w1 (by omega) (by omega) ((by (repeat (first | with_reducible exact Below.refl _ _ | with_reducible assumption | with_reducible refine Below.alloc ?_ (by first | (simp; done) | (simp; omega) | omega) _ | with_reducible refine Below.setCell ?_ (by first | (simp; done) | (simp; omega) | omega) _ | with_reducible refine Below.drew ?_ | with_reducible refine below_drewN ?_ _)) : Below w.heap.size w _).trans (hb.mono (by first | (simp; done) | (simp; omega) | omega))))))
  rw [hn] at HS
  clear hf
  have HN := Lib.hid hn
  clear hn
  have s1 : IntKind.i64.wrap (hi - lo) = hi - lo := IntWalk.i64_in _ (by omega)
  have s2 : IntKind.i64.wrap (hi - lo + 1) = hi - lo + 1 := IntWalk.i64_in _ (by omega)
  go_enter Tryz.func44, Tryz.ntmps44
  go_wp2_with fail
  go_region_with (go_at_call 95; (with_reducible refine Calls.mono (HS.out) ?_); rintro e w1 ⟨r, rfl, hr, hb1⟩; have hr1 : (r : Int) ≤ hi - lo + 1 := (by have := hr.1; have := HN.out; omega); have HR := Lib.hid hr; have hv : w1.cell? ⟨w.heap.size, 0, none⟩ = some (.int .i64 lo) := (hb1.cell (by first | (simp; done) | (simp; omega) | omega)).trans (by simp [go_sem]); have HB := Lib.hid hb1; have s3 : IntKind.i64.wrap (lo + r) = lo + r := IntWalk.i64_in _ (by omega); clear hr hb1)
  all_goals
    go_wp2
    go_ret
    refine ⟨_, rfl, ⟨by omega, by omega, ?_, ?_⟩, (by (repeat (first | with_reducible exact Below.refl _ _ | with_reducible assumption | with_reducible refine Below.alloc ?_ (by first | (simp; done) | (simp; omega) | omega) _ | with_reducible refine Below.setCell ?_ (by first | (simp; done) | (simp; omega) | omega) _ | with_reducible refine Below.drew ?_ | with_reducible refine below_drewN ?_ _)) : Below w.heap.size w _).trans (HB.out.mono (by first | (simp; done) | (simp; omega) | omega))⟩
    · rcases HR.out.2.1 with h | h
      · left; rw [h]; simp
      · by_cases h0 : r = 0
        · left; rw [h0]; simp
        · right; rw [← h]; congr 1; omega
    · rcases HR.out.2.2 with h | h
      · left; have := HN.out; omega
      · right; exact h
end Go.Proofs.YtjncjoaohonmjaaGreat
