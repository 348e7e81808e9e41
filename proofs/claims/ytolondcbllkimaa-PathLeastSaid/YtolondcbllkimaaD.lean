/- Helpers: contracts of the functions that check several conditions in their order (firstError, require) and of the binary search (least). The closures that they are handed are any that answer as the hypotheses say and change no memory that was there. -/
import Derived.Test.YtolondcbllkimaaB
namespace Go.Proofs.Ytolondcbllkimaa
open Go.RowKit Go.Shelf Go.Sort
theorem lt_of {w : World} {b o : Nat} {v : Value} (h : w.cell? ⟨b, o, none⟩ = some v) : b < w.heap.size := World.block_lt_of_cell? _ _ h
theorem keep {w w1 : World} {b o : Nat} {v : Value} (hb : Below w.heap.size w w1) (h : w.cell? ⟨b, o, none⟩ = some v) : w1.cell? ⟨b, o, none⟩ = some v := (hb.cell (p := ⟨b, o, none⟩) (lt_of h)).trans h
theorem grows_of {P : Program} {f : FuncId} {args : Array Value} {w : World} {v : Value} (h : Calls P f args w fun e w' => e = .returned v ∧ w = w') : Calls P f args w fun e w' => e = .returned v ∧ Below w.heap.size w w' :=
  h.mono fun _ _ ⟨h1, h2⟩ => ⟨h1, h2 ▸ Below.refl _ _⟩
def ferr (er : Nat → Int) : Nat → Nat → Int
  | _, 0 => 0
  | i, n + 1 => if er i = 0 then ferr er (i + 1) n else er i
set_option maxRecDepth 100000 in
set_option maxHeartbeats 400000 in
theorem firstError_any (A n : Nat) (g : Nat → Nat) (cb : Nat → Array Value) (er : Nat → Int) (w : World) (hn : n ≤ 100) (hA : A < w.heap.size)
    (hc : ∀ i, i < n → w.cell? ⟨A, 0 + i, none⟩ = some (.func (.func (g i)) #[] (cb i)))
    (eg : ∀ i, i < n → ∀ args w, (callFunc (g i) args).run Try.prog w = .ok (.enter (g i) args) w)
    (hf : ∀ i w1, i < n → (∀ j, j < i → er j = 0) → Below w.heap.size w w1 → Calls Try.prog (g i) (cb i) w1 fun e w' => e = .returned (.int .i64 (er i)) ∧ Below w1.heap.size w1 w') :
    Calls Try.prog 46 #[.slice (some ⟨A, 0, none⟩) n n] w fun e w' => e = .returned (.int .i64 (ferr er 0 n)) ∧ Below w.heap.size w w' := by
  have HF := Lib.hid hf
  have HC := Lib.hid hc
  have HE := Lib.hid eg
  clear hf hc eg
  go_enter Try.func46, Try.ntmps46
  go_wp2
  go_loopw [8] (fun i wr => ∃ k : Nat, k ≤ n ∧ i = .int .i64 k ∧ Below w.heap.size w wr ∧ Hid (∀ j, j < k → er j = 0) ∧ Hid (ferr er 0 n = ferr er k (n - k))) (fun i _ => n - (intOf i).toNat)
  case atStart => exact ⟨0, Nat.zero_le _, rfl, Below.refl _ _, fun j hj => absurd hj (Nat.not_lt_zero _), rfl⟩
  case round =>
    obtain ⟨k, hk, rfl, hbel, H, H2⟩ := hrel
    by_cases hlt : k < n
    · have hcell : wr.cell? ⟨A, k, none⟩ = some (.func (.func (g k)) #[] (cb k)) := by rw [hbel.cell (p := ⟨A, k, none⟩) hA]; have := HC.out k hlt; rwa [Nat.zero_add] at this
      have hcon := HF.out k wr hlt H.out hbel
      have heg := HE.out k hlt
      have hsz := hbel.size
      have HB := Lib.hid hbel
      clear hbel
      have HS : Hid (ferr er k (n - k) = if er k = 0 then ferr er (k + 1) (n - (k + 1)) else er k) := by
        rw [show n - k = (n - (k + 1)) + 1 from by omega]; rfl
      generalize hgk : g k = gk at hcell hcon heg
      clear hgk
      generalize cb k = cbk at hcell hcon
      by_cases hz : er k = 0
      · have HZ := Lib.hid hz
        rw [hz] at hcon
        clear hz
        go_wp2_with (go_at_fn gk; refine hcon.mono ?_; rintro e w1 ⟨rfl, hb1⟩)
        go_roundw
        case rel => exact ⟨k + 1, by omega, by go_num, HB.out.trans (hb1.mono hsz), fun j hj => (by
          rcases Nat.lt_or_eq_of_le (Nat.le_of_lt_succ hj) with h | h
          · exact H.out j h
          · rw [h]; exact HZ.out), (by show ferr er 0 n = _; rw [H2.out, HS.out, if_pos HZ.out])⟩
        case measure => simp [intOf]; omega
      · have HZ := Lib.hid hz
        have hq : (er k != 0) = true := by simpa using hz
        clear hz
        go_wp2_with (go_at_fn gk; refine hcon.mono ?_; rintro e w1 ⟨rfl, hb1⟩)
        go_ret
        exact ⟨ret_int (by rw [H2.out, HS.out, if_neg HZ.out]), HB.out.trans (hb1.mono hsz)⟩
    · obtain rfl : k = n := by omega
      have HB := Lib.hid hbel
      clear hbel
      go_wp2
      go_ret
      exact ⟨ret_int (by rw [H2.out, Nat.sub_self]; rfl), HB.out⟩
set_option maxRecDepth 100000 in
set_option maxHeartbeats 400000 in
theorem require1_any (bc be g : Nat) (cb : Array Value) (er : Int) (b : Bool) (w : World) (h1 : w.cell? ⟨bc, 0, none⟩ = some (.func (.func g) #[] cb)) (h2 : w.cell? ⟨be, 0, none⟩ = some (.int .i64 er)) (h3 : be < w.heap.size)
    (eg : ∀ args w, (callFunc g args).run Try.prog w = .ok (.enter g args) w)
    (hf : Calls Try.prog g cb w fun e w' => e = .returned (.bool b) ∧ Below w.heap.size w w') :
    Calls Try.prog 105 #[.pointer (some ⟨bc, 0, none⟩), .pointer (some ⟨be, 0, none⟩)] w fun e w' => e = .returned (.int .i64 (if b then 0 else er)) ∧ Below w.heap.size w w' := by
  have HF := Lib.hid hf
  clear hf
  cases b
  all_goals
    go_enter Try.func105, Try.ntmps105
    go_wp2_with (go_at_fn g; refine HF.out.mono ?_; rintro e w1 ⟨rfl, hb1⟩; have hv := (hb1.cell (p := ⟨be, 0, none⟩) h3).trans h2; have HB := Lib.hid hb1; clear hb1)
    go_ret
    exact ⟨rfl, HB.out⟩
set_option maxRecDepth 100000 in
set_option maxHeartbeats 400000 in
theorem require_any (er : Int) (g : Nat) (cb : Array Value) (w : World) :
    Calls Try.prog 59 #[.int .i64 er, .func (.func g) #[] cb] w fun e w' => e = .returned (.func (.func 105) #[] #[.pointer (some ⟨w.heap.size + 1, 0, none⟩), .pointer (some ⟨w.heap.size, 0, none⟩)]) ∧
      w' = (w.alloc (.cells #[.int .i64 er] 27)).alloc (.cells #[.func (.func g) #[] cb] 25) := by
  go_enter Try.func59, Try.ntmps59
  go_wp2
  go_ret
  exact ⟨rfl, rfl⟩
end Go.Proofs.Ytolondcbllkimaa
