/- Helpers: the plan of the motion with the least travel; which stop is taken next. -/
import Derived.Test.YtolondcbllkimaaT
namespace Go.Proofs.Ytolondcbllkimaa
open Go.RowKit Go.Shelf Go.Sort
attribute [local go_sem] idx3_0 idx3_1 idx3_2 old1 fro1 old2 fro2 old3 fro3 old4 fro4 old5 fro5 old6 fro6 old7 fro7 old8 fro8 old9 fro9 old10 fro10 old11 fro11 old12 fro12
theorem mr_att {ra fr : Int} {a r : Nat → Int} {n : Nat} (h : mr ra fr a r n ≠ -1) : ∃ j, j < n ∧ tv ra fr (a j) (r j) = mr ra fr a r n := by
  induction n with
  | zero => exact absurd rfl h
  | succ n ih =>
    by_cases hs : tv ra fr (a n) (r n) ≠ -1 ∧ (mr ra fr a r n = -1 ∨ tv ra fr (a n) (r n) < mr ra fr a r n)
    · exact ⟨n, Nat.lt_succ_self n, by simp only [mr]; rw [mrStep_t hs.1 hs.2]⟩
    · have he : mr ra fr a r (n + 1) = mr ra fr a r n := by simp only [mr]; exact mrStep_f hs
      rw [he] at h ⊢
      obtain ⟨j, hj, e⟩ := ih h
      exact ⟨j, by omega, e⟩
theorem first_of {p : Nat → Bool} {n j : Nat} (hj : j < n) (hp : p j = true) : ∃ i, i < n ∧ p i = true ∧ ∀ i', i' < i → p i' = false := by
  induction j using Nat.strongRecOn with
  | _ j ih =>
    by_cases h : ∃ i', i' < j ∧ p i' = true
    · obtain ⟨i', h1, h2⟩ := h
      exact ih i' h1 (by omega) h2
    · exact ⟨j, hj, hp, fun i' hi' => by cases hq : p i'; rfl; exact absurd ⟨i', hi', hq⟩ h⟩
/-- The index of the next stop from the position fr. -/
def nxt (ra fr : Int) (a r : Nat → Int) (n : Nat) : Nat := (fidx (fun j => tv ra fr (a j) (r j) == mr ra fr a r n) n).toNat
theorem nxt_spec {ra fr : Int} {a r : Nat → Int} {n : Nat} (h : mr ra fr a r n ≠ -1) : nxt ra fr a r n < n ∧ fidx (fun j => tv ra fr (a j) (r j) == mr ra fr a r n) n = (nxt ra fr a r n : Int) ∧ tv ra fr (a (nxt ra fr a r n)) (r (nxt ra fr a r n)) = mr ra fr a r n := by
  obtain ⟨j, hj, e⟩ := mr_att h
  obtain ⟨i, h1, h2, h3⟩ := first_of (p := fun j => tv ra fr (a j) (r j) == mr ra fr a r n) hj (by simp [e])
  have hf := fidx_hit h1 h2 h3
  have hn : nxt ra fr a r n = i := by unfold nxt; rw [hf]; rfl
  rw [hn]
  exact ⟨h1, hf, by simpa using h2⟩
/-- The positions and the travel of the motion with the least travel. -/
def mpos (ra st : Int) (kk : Nat → Nat) (a R : Nat → Nat → Int) : Nat → Int
  | 0 => st
  | i + 1 => a i (nxt ra (mpos ra st kk a R i) (a i) (R i) (kk i))
def mtrv (ra st : Int) (kk : Nat → Nat) (a R : Nat → Nat → Int) : Nat → Int
  | 0 => 0
  | i + 1 => mtrv ra st kk a R i + siz (mpos ra st kk a R (i + 1) - mpos ra st kk a R i)
def mok (ra st : Int) (kk : Nat → Nat) (a R : Nat → Nat → Int) (i : Nat) : Prop := mr ra (mpos ra st kk a R i) (a i) (R i) (kk i) ≠ -1
def posL (p : Nat → Int) (k : Nat) : List Value := (List.range k).map fun i => .int .i64 (p (i + 1))
theorem posL_s (p : Nat → Int) (k : Nat) : posL p (k + 1) = posL p k ++ [.int .i64 (p (k + 1))] := by simp [posL, List.range_succ]
theorem mpos_in {ra st lo hi : Int} {kk : Nat → Nat} {a R : Nat → Nat → Int} {n : Nat} (h1 : lo ≤ st) (h2 : st ≤ hi) (ha : ∀ i, i < n → ∀ j, j < kk i → lo ≤ a i j ∧ a i j ≤ hi) (k : Nat) (hk : k ≤ n) (ho : ∀ i, i < k → mok ra st kk a R i) : lo ≤ mpos ra st kk a R k ∧ mpos ra st kk a R k ≤ hi := by
  cases k with
  | zero => exact ⟨h1, h2⟩
  | succ k => exact ha k (by omega) _ (nxt_spec (ho k (Nat.lt_succ_self k))).1
theorem mtrv_in {ra st lo hi : Int} {kk : Nat → Nat} {a R : Nat → Nat → Int} {n : Nat} (hl : -20000 ≤ lo) (hh : hi ≤ 20000) (h1 : lo ≤ st) (h2 : st ≤ hi) (ha : ∀ i, i < n → ∀ j, j < kk i → lo ≤ a i j ∧ a i j ≤ hi) (k : Nat) (hk : k ≤ n) (ho : ∀ i, i < k → mok ra st kk a R i) : 0 ≤ mtrv ra st kk a R k ∧ mtrv ra st kk a R k ≤ 40000 * k := by
  induction k with
  | zero => simp [mtrv]
  | succ k ih =>
    have i1 := ih (by omega) (fun i hi => ho i (by omega))
    have p1 := mpos_in (R := R) (ra := ra) h1 h2 ha k (by omega) (fun i hi => ho i (by omega))
    have p2 := mpos_in (R := R) (ra := ra) h1 h2 ha (k + 1) hk ho
    have s1 := siz_le (x := mpos ra st kk a R (k + 1) - mpos ra st kk a R k) (b := 40000) (by omega) (by omega)
    have s2 := siz_nn (mpos ra st kk a R (k + 1) - mpos ra st kk a R k)
    show 0 ≤ mtrv ra st kk a R k + siz (mpos ra st kk a R (k + 1) - mpos ra st kk a R k) ∧ mtrv ra st kk a R k + siz (mpos ra st kk a R (k + 1) - mpos ra st kk a R k) ≤ _
    omega
/-- Rows of stops below the block B. -/
def RB (W : World) (S n B : Nat) (A : Nat → Option Addr) (c kk g : Nat → Nat) (a r : Nat → Nat → Int) : Prop :=
  RR W S n A c kk g a r ∧ (0 < n → S < B) ∧ ∀ i, i < n → 0 < kk i → g i < B
theorem RB.of {W W' : World} {S n B : Nat} {A : Nat → Option Addr} {c kk g : Nat → Nat} {a r : Nat → Nat → Int} (h : RB W S n B A c kk g a r) (hc : ∀ b o, S ≤ b → b < B → W'.cell? ⟨b, o, none⟩ = W.cell? ⟨b, o, none⟩) (hf : ∀ b o, S ≤ b → b < B → W'.frozen? ⟨b, o, none⟩ = W.frozen? ⟨b, o, none⟩) : RB W' S n B A c kk g a r := by
  obtain ⟨⟨h1, h2, h3⟩, hS, hg⟩ := h
  refine ⟨⟨fun i hi => (hc _ _ (Nat.le_refl S) (hS (by omega))).trans (h1 i hi), fun i hi h0 => ?_, h3⟩, hS, hg⟩
  obtain ⟨e1, e2, e3⟩ := h2 i hi h0
  have hgB := hg i hi h0
  refine ⟨e1, e2, fun j hj => ?_⟩
  obtain ⟨q1, q2, q3⟩ := e3 j hj
  exact ⟨(hc _ _ (Nat.le_of_lt e2) hgB).trans q1, (hc _ _ (Nat.le_of_lt e2) hgB).trans q2, (hf _ _ (Nat.le_of_lt e2) hgB).trans q3⟩
theorem RB.of_rr {W : World} {S n : Nat} {A : Nat → Option Addr} {c kk g : Nat → Nat} {a r : Nat → Nat → Int} (h : RR W S n A c kk g a r) : RB W S n W.heap.size A c kk g a r :=
  ⟨h, fun h0 => lt_of (h.1 0 h0), fun i hi h0 => lt_of ((h.2.1 i hi h0).2.2 0 h0).1⟩
theorem pick_any (bd ba br : Nat) (t lo hi st ra fr x : Int) (g n c j : Nat) (at_ re : Nat → Int) (w : World) (d0 : w.cell? ⟨bd, 0, none⟩ = some (.int .i64 t)) (d1 : w.cell? ⟨bd, 1, none⟩ = some (.int .i64 lo)) (d2 : w.cell? ⟨bd, 2, none⟩ = some (.int .i64 hi)) (d3 : w.cell? ⟨bd, 3, none⟩ = some (.int .i64 st)) (d4 : w.cell? ⟨bd, 4, none⟩ = some (.int .i64 ra))
    (a0 : w.cell? ⟨ba, 0, none⟩ = some (.int .i64 fr)) (r0 : w.cell? ⟨br, 0, none⟩ = some (.int .i64 x)) (hn : n ≤ 1000000) (hn0 : 0 < n) (hc : ∀ i, i < n → w.cell? ⟨g, 0 + i * 2, none⟩ = some (.int .i64 (at_ i)) ∧ w.cell? ⟨g, 0 + i * 2 + 1, none⟩ = some (.int .i64 (re i)))
    (hr : ∀ i, i < n → (-100000 ≤ at_ i - fr ∧ at_ i - fr ≤ 100000) ∧ (-1 ≤ re i ∧ re i ≤ 100000000)) (hj : fidx (fun i => tv ra fr (at_ i) (re i) == x) n = (j : Int)) :
    Calls Try.prog 113 #[.slice (some ⟨g, 0, none⟩) n c, .func (.func 114) #[] #[.pointer (some ⟨bd, 0, none⟩), .pointer (some ⟨ba, 0, none⟩), .pointer (some ⟨br, 0, none⟩)]] w fun e w' => e = .returned (.int .i64 j) ∧ Below w.heap.size w w' := by
  rw [← hj]
  refine indexFunc_stop 114 _ n c g 0 at_ re _ w (enters_of Try.func114 (by kernel_rfl) rfl) hn (lt_of (hc 0 hn0).1) hc (fun i w1 hin hb => ?_)
  obtain ⟨⟨q1, q2⟩, ⟨q3, q4⟩⟩ := hr i hin
  exact minimumMotion1_any bd ba br t lo hi st ra fr (at_ i) (re i) x w1 (keep hb d0) (keep hb d1) (keep hb d2) (keep hb d3) (keep hb d4) (keep hb a0) (keep hb r0) q1 q2 q3 q4
theorem infoInt : (Try.prog.info? 3).map (fun i => (i.zero, i.size, i.bytes)) = some (some (.int .i64 0), 1, 8) := by kernel_rfl
theorem undInts : Try.prog.underlying 44 = some (.slice 3) := by kernel_rfl
theorem news1 (w : World) (x : Value) (t : TypeId) : ∀ j u, [x][j]? = some u → (w.alloc (.cells #[x] t)).cell? ((⟨w.heap.size, 0, none⟩ : Addr).add j) = some u := by
  intro j u hj
  match j, hj with
  | 0, hj => simp at hj; subst hj; simp [Addr.add]
  | j + 1, hj => simp at hj
end Go.Proofs.Ytolondcbllkimaa
