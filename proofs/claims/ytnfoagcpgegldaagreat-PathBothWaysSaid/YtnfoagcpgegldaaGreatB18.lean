/- Helpers: the times of receipt as numbers (the first time at which a signal has arrived, the last one at which it surely has not). -/
import Derived.Test.YtnfoagcpgegldaaGreatB17
import Derived.Test.YtnfoagcpgegldaaGreatB14
namespace Go.Proofs.YtnfoagcpgegldaaGreat
open Go.RowKit Go.Shelf Go.Sort
/-- The first number from lo on, of n ones, at which p holds; the one behind them if there is none. -/
def fstI (p : Int → Bool) : Int → Nat → Int
  | lo, 0 => lo
  | lo, n + 1 => if p lo then lo else fstI p (lo + 1) n
theorem fstI_RL (p : Int → Bool) : ∀ (n : Nat) (lo : Int), RL p lo (lo + n - 1) (fstI p lo n)
  | 0, lo => ⟨Int.le_refl _, by show lo ≤ _; omega, .inl rfl, .inl (by show lo = _; omega)⟩
  | n + 1, lo => by
    unfold fstI
    by_cases h : p lo = true
    · rw [if_pos h]
      exact ⟨Int.le_refl _, by omega, .inl rfl, .inr h⟩
    · rw [if_neg h]
      obtain ⟨a, b, c, d⟩ := fstI_RL p n (lo + 1)
      refine ⟨by omega, by omega, ?_, ?_⟩
      · rcases c with c | c
        · right; rw [c, Int.add_sub_cancel]; simpa using h
        · exact .inr c
      · rcases d with d | d
        · left; omega
        · exact .inr d
theorem RL_one {p : Int → Bool} {lo hi r r' : Int} (hm : ∀ x y, lo ≤ x → x ≤ y → y ≤ hi → p x = true → p y = true) (h : RL p lo hi r) (h' : RL p lo hi r') : r = r' := by
  obtain ⟨a1, a2, a3, a4⟩ := h
  obtain ⟨b1, b2, b3, b4⟩ := h'
  have key : ∀ x y, lo ≤ x → x < y → y ≤ hi + 1 → (y = lo ∨ p (y - 1) = false) → (x = hi + 1 ∨ p x = true) → False := by
    intro x y q0 q1 q2 q3 q4
    rcases q3 with z | z
    · omega
    · rcases q4 with u | u
      · omega
      · rw [hm x (y - 1) q0 (by omega) (by omega) u] at z; cases z
  rcases Int.lt_or_le r r' with q | q
  · exact (key r r' a1 q b2 b3 a4).elim
  · rcases Int.lt_or_le r' r with q' | q'
    · exact (key r' r b1 q' a2 a3 b4).elim
    · omega
def lastT (B : Trk) : Int := (B.k (B.n - 1)).t
def rcHi (A B : Trk) (s : Int) : Int := fstI (arrB A B s) s (lastT B + 1 - s).toNat
def rcPos (A B : Trk) (s : Int) : Int := fstI (fun r => !awayB A B s r) s (rcHi A B s + 1 - s).toNat
def rcLo (A B : Trk) (s : Int) : Int := max s (rcPos A B s - 1)
theorem TIn.last {B : Trk} {s : Int} (h : TIn B s) : s ≤ lastT B := (inside h.2).2
theorem TIn.first {B : Trk} {s : Int} (h : TIn B s) : (B.k 0).t ≤ s := (inside h.2).1
theorem TIn.to {B : Trk} {s r : Int} (h : TIn B s) (h1 : s ≤ r) (h2 : r ≤ lastT B) : TIn B r := ⟨h.1, inside_mk (by have := h.first; omega) h2⟩
theorem rcHi_RL {A B : Trk} {s : Int} (hB : TIn B s) : RL (arrB A B s) s (lastT B) (rcHi A B s) := by
  have := fstI_RL (arrB A B s) (lastT B + 1 - s).toNat s
  have h := hB.last
  rwa [show s + ((lastT B + 1 - s).toNat : Int) - 1 = lastT B by omega] at this
theorem hi_same {A B : Trk} {s r : Int} (hA : TIn A s) (hB : TIn B s) (h : RL (arrB A B s) s (lastT B) r) : r = rcHi A B s :=
  RL_one (fun _ _ q0 q1 q2 q => arr_mono hA q0 (hB.to q0 (by omega)) (hB.to (by omega) q2) q1 q) h (rcHi_RL hB)
theorem rcPos_RL {A B : Trk} {s : Int} (hB : TIn B s) : RL (fun r => !awayB A B s r) s (rcHi A B s) (rcPos A B s) := by
  have := fstI_RL (fun r => !awayB A B s r) (rcHi A B s + 1 - s).toNat s
  have h := (rcHi_RL (A := A) hB).1
  rwa [show s + ((rcHi A B s + 1 - s).toNat : Int) - 1 = rcHi A B s by omega] at this
theorem pos_same {A B : Trk} {s r : Int} (hA : TIn A s) (hB : TIn B s) (hl : rcHi A B s ≤ lastT B) (h : RL (fun r => !awayB A B s r) s (rcHi A B s) r) : r = rcPos A B s :=
  RL_one (fun x y q0 q1 q2 q => by
    rw [Bool.not_eq_true'] at q ⊢
    exact away_mono hA q0 (hB.to q0 (by omega)) (hB.to (by omega) (by omega)) q1 q) h (rcPos_RL hB)
theorem rc_bounds {A B : Trk} {s : Int} (hB : TIn B s) : s ≤ rcLo A B s ∧ rcLo A B s ≤ rcHi A B s := by
  have h1 := (rcHi_RL (A := A) hB).1
  have h2 := rcPos_RL (A := A) hB
  unfold rcLo
  have := h2.2.1
  omega
theorem lo_same {A B : Trk} {s L : Int} (hA : TIn A s) (hB : TIn B s) (hl : rcHi A B s ≤ lastT B) (h1 : s ≤ L) (h2 : L ≤ rcHi A B s) (h3 : L = s ∨ awayB A B s L = true) (h4 : L = rcHi A B s ∨ awayB A B s (L + 1) = false) : L = rcLo A B s := by
  unfold rcLo
  by_cases hw : awayB A B s L = true
  · have : L + 1 = rcPos A B s := pos_same hA hB hl ⟨by omega, by omega, .inr (by show (!awayB A B s (L + 1 - 1)) = false; rw [Int.add_sub_cancel, hw]; rfl), by
      rcases h4 with h | h
      · left; omega
      · right; show (!awayB A B s (L + 1)) = true; rw [h]; rfl⟩
    omega
  · have e : L = s := by
      rcases h3 with h | h
      · exact h
      · exact absurd h hw
    rw [e] at hw
    have : s = rcPos A B s := pos_same hA hB hl ⟨by omega, by omega, .inl rfl, .inr (by show (!awayB A B s s) = true; simpa using hw)⟩
    omega
theorem rc_none {A B : Trk} {s : Int} (hA : TIn A s) (hB : TIn B s) (h : arrB A B s (lastT B) = false) : lastT B < rcHi A B s := by
  obtain ⟨a, b, c, d⟩ := rcHi_RL (A := A) hB
  rcases d with d | d
  · omega
  · rcases Int.lt_or_le (lastT B) (rcHi A B s) with q | q
    · exact q
    · have := arr_mono hA a (hB.to a q) (hB.to hB.last (Int.le_refl _)) q d
      rw [h] at this; cases this
theorem rc_some {A B : Trk} {s : Int} (hB : TIn B s) (h : arrB A B s (lastT B) = true) : rcHi A B s ≤ lastT B := by
  obtain ⟨a, b, c, d⟩ := rcHi_RL (A := A) hB
  rcases c with c | c
  · have := hB.last; omega
  · rcases Int.lt_or_le (lastT B) (rcHi A B s) with q | q
    · rw [show rcHi A B s - 1 = lastT B by omega, h] at c; cases c
    · exact q
theorem rc_arr {A B : Trk} {s : Int} (hB : TIn B s) (h : rcHi A B s ≤ lastT B) : arrB A B s (rcHi A B s) = true := by
  obtain ⟨a, b, c, d⟩ := rcHi_RL (A := A) hB
  rcases d with d | d
  · omega
  · exact d
/-- A track's numbers alone. -/
def TV.t (A : TV) : Trk := ⟨0, 0, A.n, 0, A.k, A.d⟩
def rvE (A B : TV) (s : Int) : Int := if distErr A B s = 0 then (if lastT B.t < rcHi A.t B.t s then 12 else 0) else distErr A B s
def rvLo (A B : TV) (s : Int) : Int := if rvE A B s = 0 then rcLo A.t B.t s else 0
def rvHi (A B : TV) (s : Int) : Int := if rvE A B s = 0 then rcHi A.t B.t s else 0
theorem distErr_in {A B : TV} {s : Int} (h : distErr A B s = 0) : TIn A.t s ∧ TIn B.t s := by
  obtain ⟨a, b, c, d⟩ := distErr_0 h
  exact ⟨⟨a, c⟩, ⟨b, d⟩⟩
theorem same_arrN {A B A' B' : Trk} (hA : A.k = A'.k ∧ A.n = A'.n ∧ A.d = A'.d) (hB : B.k = B'.k ∧ B.n = B'.n ∧ B.d = B'.d) (s r : Int) : arrB A B s r = arrB A' B' s r ∧ awayB A B s r = awayB A' B' s r := by
  unfold arrB awayB sqF sqN Trk.p
  rw [hA.1, hA.2.1, hA.2.2, hB.1, hB.2.1, hB.2.2]
  exact ⟨rfl, rfl⟩
/-- The program's ReceivedAt, by these numbers. -/
theorem receivedAt_n (A B : TV) (s : Int) (w : World) (hA : A.At w) (hB : B.At w) :
    Calls Tryz.prog 20 #[.agg #[.slice A.a A.n A.c, .int .i64 A.d], .agg #[.slice B.a B.n B.c, .int .i64 B.d], .int .i64 s] w fun e w' => e = .returned (.tuple #[.agg #[.int .i64 (rvLo A B s), .int .i64 (rvHi A B s)], .int .i64 (rvE A B s)]) ∧ Below w.heap.size w w' := by
  refine (receivedAt_x A.a B.a A.n A.c B.n B.c A.k B.k A.d B.d s w hA hB).mono ?_
  rintro e w' ⟨hb, hh⟩
  refine ⟨?_, hb⟩
  change (if distErr A B s = 0 then _ else _) at hh
  by_cases hd : distErr A B s = 0
  · rw [if_pos hd] at hh
    obtain ⟨A', B', arr, hA', hB', h1, h2⟩ := hh
    obtain ⟨tA, tB⟩ := distErr_in hd
    have fa : arrB A' B' s = arrB A.t B.t s := funext fun r => (same_arrN (A' := A.t) (B' := B.t) hA' hB' s r).1
    have fw : (fun r => !awayB A' B' s r) = fun r => !awayB A.t B.t s r := funext fun r => by rw [(same_arrN (A' := A.t) (B' := B.t) hA' hB' s r).2]
    rw [fa] at h1
    have ea := hi_same tA tB h1
    have hl : (B.k (B.n - 1)).t = lastT B.t := rfl
    subst ea
    rcases h2 with ⟨q, rfl⟩ | ⟨q, pos, h3, rfl⟩
    · have e1 : rvE A B s = 12 := by unfold rvE; rw [if_pos hd, if_pos (by rw [← hl]; exact q)]
      unfold rvLo rvHi
      rw [e1, if_neg (by decide), if_neg (by decide)]
    · have e1 : rvE A B s = 0 := by unfold rvE; rw [if_pos hd, if_neg (by have q' : rcHi A.t B.t s ≤ lastT B.t := q; omega)]
      rw [fw] at h3
      have ep := pos_same tA tB (by rw [← hl]; exact q) h3
      subst ep
      unfold rvLo rvHi
      rw [e1, if_pos rfl, if_pos rfl]
      rfl
  · rw [if_neg hd] at hh
    have e1 : rvE A B s = distErr A B s := by unfold rvE; rw [if_neg hd]
    unfold rvLo rvHi
    rw [e1, if_neg hd, if_neg hd]
    exact hh
end Go.Proofs.YtnfoagcpgegldaaGreat
