/- Helpers: the searches of ReceivedAt. -/
import Derived.Test.YtolondcbllkimaaM
namespace Go.Proofs.Ytolondcbllkimaa
open Go.RowKit Go.Shelf Go.Sort
attribute [local go_sem] idx3_0 idx3_1 idx3_2 old1 fro1 old2 fro2 old3 fro3 old4 fro4 old5 fro5 old6 fro6 old7 fro7 old8 fro8 old9 fro9 old10 fro10 old11 fro11 old12 fro12
theorem span {k : Nat → Knot} {n : Nat} (hk : ∀ i, i < n → knotErr k i = 0) : ∀ i, i < n → (k i).t - (k 0).t ≤ 10000 * i ∧ (k 0).t ≤ (k i).t
  | 0, _ => by omega
  | i + 1, h => by
    have h1 := span hk i (by omega)
    have h2 := knot_step (hk (i + 1) h) (by omega)
    rw [Nat.add_sub_cancel] at h2
    omega
theorem inside {A : Trk} {s : Int} (h : outside s A.k A.n = false) : (A.k 0).t ≤ s ∧ s ≤ (A.k (A.n - 1)).t := by
  have hi : wi s (A.k 0).t (A.k (A.n - 1)).t = true := by unfold outside at h; simpa using h
  exact wi_t.1 hi
theorem inside_mk {A : Trk} {s : Int} (h1 : (A.k 0).t ≤ s) (h2 : s ≤ (A.k (A.n - 1)).t) : outside s A.k A.n = false := by
  unfold outside; rw [wi_t.2 ⟨h1, h2⟩]; rfl
theorem span_t {A : Trk} {s r : Int} (hv : ctErr A.k A.n A.d = 0) (hs : outside s A.k A.n = false) (hr : outside r A.k A.n = false) : r - s ≤ 120000 := by
  obtain ⟨h0, h12, hk, _⟩ := valid_of hv
  have h1 := span hk (A.n - 1) (by omega)
  have := inside hs
  have := inside hr
  omega
set_option maxRecDepth 100000 in
set_option maxHeartbeats 800000 in
theorem receivedAt1_any (A B : Trk) (s r : Int) (x y z : Nat) (w : World) (hA : VT w A s) (hB : VT w B r) (hsr : s ≤ r) (hr : r - s ≤ 20000000000)
    (x0 : w.cell? ⟨x, 0, none⟩ = some (.slice (some ⟨A.b, A.off, none⟩) A.n A.c)) (x1 : w.cell? ⟨x, 1, none⟩ = some (.int .i64 A.d)) (y0 : w.cell? ⟨y, 0, none⟩ = some (.slice (some ⟨B.b, B.off, none⟩) B.n B.c)) (y1 : w.cell? ⟨y, 1, none⟩ = some (.int .i64 B.d)) (z0 : w.cell? ⟨z, 0, none⟩ = some (.int .i64 s)) :
    Calls Try.prog 77 #[.int .i64 r, .pointer (some ⟨x, 0, none⟩), .pointer (some ⟨y, 0, none⟩), .pointer (some ⟨z, 0, none⟩)] w fun e w' => e = .returned (.bool (arrB A B s r)) ∧ Below w.heap.size w w' := by
  have HC := Lib.hid (surelyArrived_any w A B s r hA hB hsr hr)
  clear hA hB
  generalize arrB A B s r = q at *
  go_enter Try.func77, Try.ntmps77
  go_wp2_with (go_at_call 78; (with_reducible refine Calls.mono HC.out ?_); rintro e w1 ⟨rfl, hb1⟩)
  go_ret
  exact ⟨rfl, hb1⟩
set_option maxRecDepth 100000 in
set_option maxHeartbeats 800000 in
theorem receivedAt2_any (A B : Trk) (s r : Int) (x y z : Nat) (w : World) (hA : VT w A s) (hB : VT w B r) (hsr : s ≤ r) (hr : r - s ≤ 20000000000)
    (x0 : w.cell? ⟨x, 0, none⟩ = some (.slice (some ⟨A.b, A.off, none⟩) A.n A.c)) (x1 : w.cell? ⟨x, 1, none⟩ = some (.int .i64 A.d)) (y0 : w.cell? ⟨y, 0, none⟩ = some (.slice (some ⟨B.b, B.off, none⟩) B.n B.c)) (y1 : w.cell? ⟨y, 1, none⟩ = some (.int .i64 B.d)) (z0 : w.cell? ⟨z, 0, none⟩ = some (.int .i64 s)) :
    Calls Try.prog 79 #[.int .i64 r, .pointer (some ⟨x, 0, none⟩), .pointer (some ⟨y, 0, none⟩), .pointer (some ⟨z, 0, none⟩)] w fun e w' => e = .returned (.bool (!awayB A B s r)) ∧ Below w.heap.size w w' := by
  have HC := Lib.hid (surelyNotArrived_any w A B s r hA hB hsr hr)
  clear hA hB
  generalize awayB A B s r = q at *
  go_enter Try.func79, Try.ntmps79
  go_wp2_with (go_at_call 80; (with_reducible refine Calls.mono HC.out ?_); rintro e w1 ⟨rfl, hb1⟩)
  go_ret
  exact ⟨rfl, hb1⟩
theorem leastArr (A B : Trk) (s last : Int) (x y z : Nat) (w : World) (hA : VT w A s) (hB : VT w B s) (hl : last = (B.k (B.n - 1)).t)
    (x0 : w.cell? ⟨x, 0, none⟩ = some (.slice (some ⟨A.b, A.off, none⟩) A.n A.c)) (x1 : w.cell? ⟨x, 1, none⟩ = some (.int .i64 A.d)) (y0 : w.cell? ⟨y, 0, none⟩ = some (.slice (some ⟨B.b, B.off, none⟩) B.n B.c)) (y1 : w.cell? ⟨y, 1, none⟩ = some (.int .i64 B.d)) (z0 : w.cell? ⟨z, 0, none⟩ = some (.int .i64 s)) :
    Calls Try.prog 69 #[.int .i64 s, .int .i64 last, .func (.func 77) #[] #[.pointer (some ⟨x, 0, none⟩), .pointer (some ⟨y, 0, none⟩), .pointer (some ⟨z, 0, none⟩)]] w (SomeL (arrB A B s) s last w) := by
  have ht := time_bd hA.2
  have hi := inside hB.2.2
  have hb0 : outside last B.k B.n = false := inside_mk (by omega) (by omega)
  have ht2 := time_bd ⟨hB.2.1, hb0⟩
  refine least_any 77 _ s last _ w (enters_of Try.func77 (by kernel_rfl) rfl) (by omega) (by omega) (by omega) (fun r w1 h1 h2 hb => ?_)
  have hbr : outside r B.k B.n = false := inside_mk (by omega) (by omega)
  have sp := span_t hB.2.1 hB.2.2 hbr
  exact receivedAt1_any A B s r x y z w1 (hA.below hb) ⟨hB.1.below hb, hB.2.1, hbr⟩ h1 (by omega) (keep hb x0) (keep hb x1) (keep hb y0) (keep hb y1) (keep hb z0)
theorem leastPos (A B : Trk) (s hi : Int) (x y z : Nat) (w : World) (hA : VT w A s) (hB : VT w B s) (hs : s ≤ hi) (hl : hi ≤ (B.k (B.n - 1)).t)
    (x0 : w.cell? ⟨x, 0, none⟩ = some (.slice (some ⟨A.b, A.off, none⟩) A.n A.c)) (x1 : w.cell? ⟨x, 1, none⟩ = some (.int .i64 A.d)) (y0 : w.cell? ⟨y, 0, none⟩ = some (.slice (some ⟨B.b, B.off, none⟩) B.n B.c)) (y1 : w.cell? ⟨y, 1, none⟩ = some (.int .i64 B.d)) (z0 : w.cell? ⟨z, 0, none⟩ = some (.int .i64 s)) :
    Calls Try.prog 69 #[.int .i64 s, .int .i64 hi, .func (.func 79) #[] #[.pointer (some ⟨x, 0, none⟩), .pointer (some ⟨y, 0, none⟩), .pointer (some ⟨z, 0, none⟩)]] w (SomeL (fun r => !awayB A B s r) s hi w) := by
  have ht := time_bd hA.2
  have hin := inside hB.2.2
  have hb0 : outside hi B.k B.n = false := inside_mk (by omega) (by omega)
  have ht2 := time_bd ⟨hB.2.1, hb0⟩
  refine least_any 79 _ s hi _ w (enters_of Try.func79 (by kernel_rfl) rfl) (by omega) (by omega) (by omega) (fun r w1 h1 h2 hb => ?_)
  have hbr : outside r B.k B.n = false := inside_mk (by omega) (by omega)
  have sp := span_t hB.2.1 hB.2.2 hbr
  exact receivedAt2_any A B s r x y z w1 (hA.below hb) ⟨hB.1.below hb, hB.2.1, hbr⟩ h1 (by omega) (keep hb x0) (keep hb x1) (keep hb y0) (keep hb y1) (keep hb z0)
end Go.Proofs.Ytolondcbllkimaa
