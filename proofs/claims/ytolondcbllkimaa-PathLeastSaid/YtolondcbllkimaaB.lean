import Derived.Test.YtolondcbllkimaaA
import Derived.Deep.LoopGhost
import Derived.Shelf.SlSorted.Search
namespace Go.Proofs.Ytolondcbllkimaa
open Go.RowKit Go.Shelf Go.Sort

/-! ### first index -/
def fidx (p : Nat → Bool) (n : Nat) : Int := match (List.range n).find? p with | some i => (i : Int) | none => -1
theorem fidx_hit {p : Nat → Bool} {n k : Nat} (hk : k < n) (hp : p k = true) (hb : ∀ j, j < k → p j = false) : fidx p n = (k : Int) := by
  have h : (List.range n).find? p = some k := by
    rw [List.find?_range_eq_some]
    exact ⟨hp, by simpa using hk, fun j hj => by simp [hb j hj]⟩
  simp [fidx, h]
theorem fidx_miss {p : Nat → Bool} {n : Nat} (hb : ∀ j, j < n → p j = false) : fidx p n = -1 := by
  have h : (List.range n).find? p = none := by
    rw [List.find?_range_eq_none]
    intro j hj; simp [hb j hj]
  simp [fidx, h]
theorem fidx_nn {p : Nat → Bool} {n : Nat} : decide (0 ≤ fidx p n) = (List.range n).any p := by
  unfold fidx
  cases h : (List.range n).find? p with
  | none =>
    simp only [List.find?_eq_none] at h
    have : (List.range n).any p = false := by
      rw [List.any_eq_false]; intro x hx; exact h x hx
    rw [this]; simp
  | some i =>
    have h1 := List.find?_some h
    have h2 := List.mem_of_find?_eq_some h
    have : (List.range n).any p = true := List.any_eq_true.2 ⟨i, h2, h1⟩
    rw [this]; simp

/-! ### slices.IndexFunc, ContainsFunc over []int -/
set_option maxRecDepth 100000 in
set_option maxHeartbeats 400000 in
theorem indexFunc_int (g : Nat) (cb : Array Value) (n c : Nat) (b off : Nat) (xs : Nat → Int) (p : Nat → Bool) (w : World) (eg : ∀ args w, (callFunc g args).run Try.prog w = .ok (.enter g args) w) (hn : n ≤ 1000000)
    (hc : ∀ i, i < n → w.cell? ⟨b, off + i, none⟩ = some (.int .i64 (xs i)))
    (hf : ∀ (i : Nat), i < n → Calls Try.prog g (#[.int .i64 (xs i)] ++ cb) w fun e w' => e = .returned (.bool (p i)) ∧ w = w') :
    Calls Try.prog 124 #[.slice (some ⟨b, off, none⟩) n c, .func (.func g) #[] cb] w fun e w' => e = .returned (.int .i64 (fidx p n)) ∧ w = w' := by
  have HF := Lib.hid hf
  have HC := Lib.hid hc
  clear hf hc
  go_enter Try.func124, Try.ntmps124
  go_wp2
  go_loop [8] (fun i => ∃ k : Nat, k ≤ n ∧ i = .int .i64 k ∧ Hid (∀ j, j < k → p j = false)) (fun i => n - (intOf i).toNat)
  case atStart => exact ⟨0, Nat.zero_le _, rfl, fun j hj => absurd hj (Nat.not_lt_zero _)⟩
  case round =>
    obtain ⟨k, hk, rfl, H⟩ := hrel
    by_cases hlt : k < n
    · have hcell := HC.out k hlt
      have hcon := HF.out k hlt
      cases hp : p k <;> rw [hp] at hcon <;> have HP := Lib.hid hp <;> clear hp
      · go_wp2_with (go_at_fn g; refine hcon.mono ?_; rintro e w1 ⟨rfl, rfl⟩)
        go_round
        case rel => exact ⟨k + 1, by omega, by go_num, fun j hj => (by
          rcases Nat.lt_or_eq_of_le (Nat.le_of_lt_succ hj) with h | h
          · exact H.out j h
          · rw [h]; exact HP.out)⟩
        case measure => simp [intOf]; omega
      · go_wp2_with (go_at_fn g; refine hcon.mono ?_; rintro e w1 ⟨rfl, rfl⟩)
        go_ret
        exact ⟨ret_int (fidx_hit hlt HP.out H.out).symm, rfl⟩
    · obtain rfl : k = n := by omega
      go_wp2
      go_ret
      exact ⟨ret_int (fidx_miss H.out).symm, rfl⟩
set_option maxRecDepth 100000 in
set_option maxHeartbeats 400000 in
theorem containsFunc_int (g : Nat) (cb : Array Value) (n c : Nat) (b off : Nat) (xs : Nat → Int) (p : Nat → Bool) (w : World) (eg : ∀ args w, (callFunc g args).run Try.prog w = .ok (.enter g args) w) (hn : n ≤ 1000000)
    (hc : ∀ i, i < n → w.cell? ⟨b, off + i, none⟩ = some (.int .i64 (xs i)))
    (hf : ∀ (i : Nat), i < n → Calls Try.prog g (#[.int .i64 (xs i)] ++ cb) w fun e w' => e = .returned (.bool (p i)) ∧ w = w') :
    Calls Try.prog 103 #[.slice (some ⟨b, off, none⟩) n c, .func (.func g) #[] cb] w fun e w' => e = .returned (.bool ((List.range n).any p)) ∧ w = w' := by
  have HC := Lib.hid (indexFunc_int g cb n c b off xs p w eg hn hc hf)
  clear hf hc eg
  generalize hr : fidx p n = r at HC
  have HR := Lib.hid hr
  clear hr
  go_enter Try.func103, Try.ntmps103
  go_wp2_with (go_at_call 124; refine HC.out.mono ?_; rintro e w1 ⟨rfl, rfl⟩)
  go_ret
  exact ⟨ret_bool (by rw [← fidx_nn, HR.out]), rfl⟩

/-! ### triples that exceed -/
set_option maxRecDepth 100000 in
set_option maxHeartbeats 400000 in
theorem exceeds1_any (x l : Int) (b : Nat) (w : World) (h : w.cell? ⟨b, 0, none⟩ = some (.int .i64 l)) (h1 : 0 ≤ l) (h2 : l ≤ 1000000) :
    Calls Try.prog 118 #[.int .i64 x, .pointer (some ⟨b, 0, none⟩)] w fun e w' => e = .returned (.bool (!wi x (-l) l)) ∧ w = w' := by
  go_enter Try.func118, Try.ntmps118
  go_wp2_with (go_at_call 45; refine (within_any _ _ _ _).mono ?_; rintro e w' ⟨rfl, rfl⟩)
  go_ret
  exact ⟨rfl, rfl⟩
def exc (x y z l : Int) : Bool := !(wi x (-l) l && wi y (-l) l && wi z (-l) l)
theorem exc_plain (x y z l : Int) : (List.range 3).any (fun i => !wi ([x, y, z].getD i 0) (-l) l) = exc x y z l := by
  simp [exc, List.range, List.range.loop, Bool.not_and, Bool.or_assoc]
set_option maxRecDepth 100000 in
set_option maxHeartbeats 400000 in
theorem exceeds_any (x y z l : Int) (w : World) (h1 : 0 ≤ l) (h2 : l ≤ 1000000) :
    Calls Try.prog 82 #[.agg #[.int .i64 x, .int .i64 y, .int .i64 z], .int .i64 l] w fun e w' => e = .returned (.bool (exc x y z l)) ∧ ∃ o1 o2, w' = (w.alloc o1).alloc o2 := by
  have HC := Lib.hid (containsFunc_int 118 #[.pointer (some ⟨w.heap.size + 1, 0, none⟩)] 3 3 w.heap.size 0 (fun i => [x, y, z].getD i 0) (fun i => !wi ([x, y, z].getD i 0) (-l) l)
    ((w.alloc (.cells #[.int .i64 x, .int .i64 y, .int .i64 z] 89)).alloc (.cells #[.int .i64 l] 3)) (enters_of Try.func118 (by kernel_rfl) rfl) (by omega)
    (fun i hi => by rcases i with _ | _ | _ | i <;> first | omega | simp [go_sem])
    (fun i hi => exceeds1_any _ l _ _ (by simp [go_sem]) h1 h2))
  rw [exc_plain] at HC
  go_enter Try.func82, Try.ntmps82
  go_wp2_with (go_at_call 103; refine HC.out.mono ?_; rintro e w1 ⟨rfl, rfl⟩)
  go_ret
  exact ⟨rfl, _, _, rfl⟩
end Go.Proofs.Ytolondcbllkimaa
