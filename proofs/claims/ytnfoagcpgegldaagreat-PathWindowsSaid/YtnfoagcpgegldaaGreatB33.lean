/- Helpers: the number of digits; sums, differences and products digit by digit (the mathematics). -/
import Derived.Test.YtnfoagcpgegldaaGreatB32
import Derived.Test.YtnfoagcpgegldaaGreatB21
namespace Go.Proofs.YtnfoagcpgegldaaGreat
def lnU (N : Int) : Nat → Nat
  | 0 => 0
  | f + 1 => if N ≤ 0 then 0 else lnU (N / 1000000000) f + 1
/-- How many digits a number has. -/
def ln (N : Int) : Nat := lnU N 60
theorem lnU_spec : ∀ (f : Nat) (N : Int), 0 ≤ N → N < bp f → N < bp (lnU N f) ∧ (lnU N f = 0 ∨ bp (lnU N f - 1) ≤ N) ∧ lnU N f ≤ f
  | 0, N, h0, h => ⟨h, .inl rfl, Nat.le_refl _⟩
  | f + 1, N, h0, h => by
    by_cases c : N ≤ 0
    · have : lnU N (f + 1) = 0 := by simp only [lnU, if_pos c]
      rw [this, bp_0]
      exact ⟨by omega, .inl rfl, by omega⟩
    · have e := Int.mul_ediv_add_emod N 1000000000
      have m1 := Int.emod_nonneg N (show (1000000000 : Int) ≠ 0 by decide)
      have m2 := Int.emod_lt_of_pos N (show (0 : Int) < 1000000000 by decide)
      rw [bp_s] at h
      obtain ⟨i1, i2, i3⟩ := lnU_spec f (N / 1000000000) (by omega) (by omega)
      have : lnU N (f + 1) = lnU (N / 1000000000) f + 1 := by simp only [lnU, if_neg c]
      rw [this, bp_s, Nat.add_sub_cancel]
      refine ⟨by omega, .inr ?_, by omega⟩
      rcases i2 with z | z
      · rw [z, bp_0]; omega
      · rcases Nat.eq_zero_or_pos (lnU (N / 1000000000) f) with y | y
        · rw [y, bp_0]; omega
        · rw [show lnU (N / 1000000000) f = lnU (N / 1000000000) f - 1 + 1 by omega, bp_s]
          omega
theorem ln_spec {N : Int} (h0 : 0 ≤ N) (h : N < bp 60) : N < bp (ln N) ∧ (ln N = 0 ∨ bp (ln N - 1) ≤ N) ∧ ln N ≤ 60 := lnU_spec 60 N h0 h
theorem ln_0 : ln 0 = 0 := rfl
theorem bp_lt {m n : Nat} (h : m < n) : bp m < bp n := by
  have := bp_mono (show m + 1 ≤ n by omega)
  rw [bp_s] at this
  have := bp_pos m
  omega
theorem ln_unique {N : Int} {k : Nat} (h0 : 0 ≤ N) (h : N < bp 60) (h1 : N < bp k) (h2 : k = 0 ∨ bp (k - 1) ≤ N) : k = ln N := by
  obtain ⟨i1, i2, _⟩ := ln_spec h0 h
  rcases Nat.lt_trichotomy k (ln N) with z | z | z
  · rcases i2 with q | q
    · omega
    · have := bp_mono (show k ≤ ln N - 1 by omega)
      omega
  · exact z
  · rcases h2 with q | q
    · omega
    · have := bp_mono (show ln N ≤ k - 1 by omega)
      omega
theorem ln_pos {N : Int} (h0 : 0 < N) (h : N < bp 60) : 0 < ln N := by
  rcases Nat.eq_zero_or_pos (ln N) with z | z
  · have := (ln_spec (by omega) h).1
    rw [z, bp_0] at this
    omega
  · exact z
theorem ln_eq0 {N : Int} (h0 : 0 ≤ N) (h : N < bp 60) : ln N = 0 ↔ N = 0 := by
  constructor
  · intro e
    have := (ln_spec h0 h).1
    rw [e, bp_0] at this
    omega
  · intro e; rw [e]; rfl
theorem ln_step {N : Int} (h : 0 < N) (h2 : N < bp 60) : ln N = ln (N / 1000000000) + 1 := by
  have e := Int.mul_ediv_add_emod N 1000000000
  have m1 := Int.emod_nonneg N (show (1000000000 : Int) ≠ 0 by decide)
  have m2 := Int.emod_lt_of_pos N (show (0 : Int) < 1000000000 by decide)
  obtain ⟨i1, i2, _⟩ := ln_spec (N := N / 1000000000) (by omega) (by omega)
  refine (ln_unique (by omega) h2 ?_ (.inr ?_)).symm
  · rw [bp_s]; omega
  · rw [Nat.add_sub_cancel]
    rcases i2 with z | z
    · rw [z, bp_0]; omega
    · rcases Nat.eq_zero_or_pos (ln (N / 1000000000)) with y | y
      · rw [y, bp_0]; omega
      · rw [show ln (N / 1000000000) = ln (N / 1000000000) - 1 + 1 by omega, bp_s]
        omega
theorem dg_0 (N : Int) : dg N 0 = N % 1000000000 := by unfold dg; rw [bp_0, Int.ediv_one]
theorem dg_s (N : Int) (i : Nat) : dg N (i + 1) = dg (N / 1000000000) i := by
  unfold dg
  rw [bp_s, Int.mul_comm, Int.ediv_ediv_of_nonneg (by decide)]
theorem dg_out {N : Int} {n i : Nat} (h0 : 0 ≤ N) (h : N < bp n) (hi : n ≤ i) : dg N i = 0 := by
  unfold dg
  rw [Int.ediv_eq_zero_of_lt h0 (Int.lt_of_lt_of_le h (bp_mono hi))]
  rfl
theorem dg_all {N : Int} {n : Nat} (h0 : 0 ≤ N) (h : N < bp n) : dval (dg N) n = N := by
  have := dg_val N n
  rw [Int.ediv_eq_zero_of_lt h0 h] at this
  omega
theorem dg_bd (N : Int) (i : Nat) : 0 ≤ dg N i ∧ dg N i < 1000000000 := dg_dig N (i + 1) i (Nat.lt_succ_self i)
theorem trim_step {N : Int} {j : Nat} (h0 : 0 ≤ N) (h : N < bp (j + 1)) (hz : dg N j = 0) : N < bp j := by
  have e := dg_all h0 h
  rw [dval_s, hz] at e
  have := (dval_bd (dg_dig N j)).2
  omega
theorem trim_end {N : Int} {j : Nat} (h0 : 0 ≤ N) (h : N < bp (j + 1)) (hz : dg N j ≠ 0) : bp j ≤ N := by
  have e := dg_all h0 h
  have a := (dval_bd (dg_dig N j)).1
  have b := (dg_bd N j).1
  have := Int.mul_le_mul_of_nonneg_right (show 1 ≤ dg N j by omega) (Int.le_of_lt (bp_pos j))
  rw [dval_s] at e
  omega
/-- Digits are those of their number. -/
theorem dg_of {xs : Nat → Int} : ∀ {n : Nat}, Dig xs n → ∀ i, i < n → xs i = dg (dval xs n) i
  | 0, _, i, h => by omega
  | n + 1, hx, i, h => by
    have hd := dval_bd (hx.less (Nat.le_succ n))
    have hn := hx n (by omega)
    have hb := bp_pos n
    by_cases e : i = n
    · subst e
      unfold dg
      rw [dval_s, Int.add_mul_ediv_right _ _ (by omega), Int.ediv_eq_zero_of_lt hd.1 hd.2, Int.zero_add, Int.emod_eq_of_lt hn.1 hn.2]
    · rw [dg_of (hx.less (Nat.le_succ n)) i (by omega)]
      unfold dg
      rw [dval_s]
      obtain ⟨k, rfl⟩ : ∃ k, n = k + 1 + i := ⟨n - i - 1, by omega⟩
      rw [bp_add, bp_s, show xs (k + 1 + i) * (bp k * 1000000000 * bp i) = xs (k + 1 + i) * bp k * 1000000000 * bp i by simp only [Int.mul_assoc], Int.add_mul_ediv_right _ _ (by have := bp_pos i; omega), Int.add_mul_emod_self_right]
/-! ### sums -/
def cyA (N M : Int) (k : Nat) : Int := (dval (dg N) k + dval (dg M) k) / bp k
theorem cyA_0 (N M : Int) : cyA N M 0 = 0 := rfl
theorem cyA_bd (N M : Int) (k : Nat) : 0 ≤ cyA N M k ∧ cyA N M k ≤ 1 := by
  have a := dval_bd (dg_dig N k)
  have b := dval_bd (dg_dig M k)
  have hp := bp_pos k
  unfold cyA
  refine ⟨Int.ediv_nonneg (by omega) (by omega), ?_⟩
  have : (dval (dg N) k + dval (dg M) k) / bp k < 2 := Int.ediv_lt_of_lt_mul hp (by omega)
  omega
theorem add_dg (N M : Int) (k : Nat) : dg (N + M) k = (dg N k + dg M k + cyA N M k) % 1000000000 := by
  have a := dg_val N k
  have b := dg_val M k
  have hp := bp_pos k
  have e : (N + M) / bp k = cyA N M k + (N / bp k + M / bp k) := by
    unfold cyA
    rw [← Int.add_mul_ediv_right _ _ (show bp k ≠ 0 by omega), Int.add_mul]
    congr 1
    omega
  unfold dg
  rw [e]
  omega
theorem cyA_s (N M : Int) (k : Nat) : cyA N M (k + 1) = (dg N k + dg M k + cyA N M k) / 1000000000 := by
  have hp := bp_pos k
  have e : (dval (dg N) (k + 1) + dval (dg M) (k + 1)) / bp k = dg N k + dg M k + cyA N M k := by
    unfold cyA
    rw [Int.add_comm (dg N k + dg M k), ← Int.add_mul_ediv_right _ _ (show bp k ≠ 0 by omega), Int.add_mul, dval_s, dval_s]
    congr 1
    omega
  rw [← e]
  unfold cyA
  rw [bp_s, Int.ediv_ediv_of_nonneg (by omega)]
theorem add_end {N M : Int} {k : Nat} (h0 : 0 ≤ N) (h1 : N < bp k) (h2 : 0 ≤ M) (h3 : M < bp k) (hc : cyA N M k = 0) : N + M < bp k := by
  unfold cyA at hc
  rw [dg_all h0 h1, dg_all h2 h3] at hc
  have hp := bp_pos k
  have e := Int.mul_ediv_add_emod (N + M) (bp k)
  have m := Int.emod_lt_of_pos (N + M) hp
  rw [hc] at e
  omega
/-! ### differences -/
def cyS (N M : Int) (k : Nat) : Int := (dval (dg N) k - dval (dg M) k) / bp k
theorem cyS_0 (N M : Int) : cyS N M 0 = 0 := rfl
theorem cyS_bd (N M : Int) (k : Nat) : -1 ≤ cyS N M k ∧ cyS N M k ≤ 0 := by
  have a := dval_bd (dg_dig N k)
  have b := dval_bd (dg_dig M k)
  have hp := bp_pos k
  unfold cyS
  have h1 : (dval (dg N) k - dval (dg M) k) / bp k < 1 := Int.ediv_lt_of_lt_mul hp (by omega)
  have h2 : -1 ≤ (dval (dg N) k - dval (dg M) k) / bp k := Int.le_ediv_of_mul_le hp (by omega)
  omega
theorem sub_dg (N M : Int) (k : Nat) : dg (N - M) k = (dg N k - dg M k + cyS N M k) % 1000000000 := by
  have a := dg_val N k
  have b := dg_val M k
  have hp := bp_pos k
  have e : (N - M) / bp k = cyS N M k + (N / bp k - M / bp k) := by
    unfold cyS
    rw [← Int.add_mul_ediv_right _ _ (show bp k ≠ 0 by omega), Int.sub_mul]
    congr 1
    omega
  unfold dg
  rw [e]
  omega
theorem cyS_s (N M : Int) (k : Nat) : cyS N M (k + 1) = (dg N k - dg M k + cyS N M k) / 1000000000 := by
  have hp := bp_pos k
  have e : (dval (dg N) (k + 1) - dval (dg M) (k + 1)) / bp k = dg N k - dg M k + cyS N M k := by
    unfold cyS
    rw [Int.add_comm (dg N k - dg M k), ← Int.add_mul_ediv_right _ _ (show bp k ≠ 0 by omega), Int.sub_mul, dval_s, dval_s]
    congr 1
    omega
  rw [← e]
  unfold cyS
  rw [bp_s, Int.ediv_ediv_of_nonneg (by omega)]
/-! ### products -/
/-- The digits of a product while it is made: those before i count, the carry stands at i + k. -/
theorem mul_round {o : Nat → Int} {K i k : Nat} {a b c P : Int} (hK : i + k < K) (ho : Dig o K) (a0 : 0 ≤ a) (a1 : a < 1000000000) (b0 : 0 ≤ b) (b1 : b < 1000000000) (c0 : 0 ≤ c) (c1 : c < 1000000000) (h : dval o K + c * bp (i + k) = P) :
    Dig (upd o (i + k) ((o (i + k) + a * b + c) % 1000000000)) K ∧ (0 ≤ (o (i + k) + a * b + c) / 1000000000 ∧ (o (i + k) + a * b + c) / 1000000000 < 1000000000) ∧ (0 ≤ o (i + k) + a * b + c ∧ o (i + k) + a * b + c < 1000000000000000000) ∧ (0 ≤ a * b ∧ a * b ≤ 999999998000000001) ∧
      dval (upd o (i + k) ((o (i + k) + a * b + c) % 1000000000)) K + (o (i + k) + a * b + c) / 1000000000 * bp (i + (k + 1)) = P + a * b * bp (i + k) := by
  have hk := ho (i + k) hK
  have m0 := Int.mul_nonneg a0 b0
  have m1 : a * b ≤ 999999999 * 999999999 := Int.mul_le_mul (by omega) (by omega) b0 (by decide)
  refine ⟨?_, ⟨by omega, by omega⟩, ⟨by omega, by omega⟩, ⟨m0, by omega⟩, ?_⟩
  · intro j hj
    unfold upd
    split
    · exact ⟨Int.emod_nonneg _ (by decide), Int.emod_lt_of_pos _ (by decide)⟩
    · exact ho j hj
  · exact mul_step (V := dval o K) (c := c) (o := o (i + k)) (x := a * b) rfl h (dval_upd hK)
theorem mul_last {o : Nat → Int} {K i m : Nat} {a c N M : Int} (hK : i + m < K) (ho : Dig o K) (hz : o (i + m) = 0) (c0 : 0 ≤ c) (c1 : c < 1000000000) (hM : dval (dg M) m = M) (ha : a = dg N i)
    (h : dval o K + c * bp (i + m) = dval (dg N) i * M + a * dval (dg M) m * bp i) :
    Dig (upd o (i + m) (o (i + m) + c)) K ∧ dval (upd o (i + m) (o (i + m) + c)) K = dval (dg N) (i + 1) * M := by
  refine ⟨?_, ?_⟩
  · intro j hj
    unfold upd
    split
    · omega
    · exact ho j hj
  · rw [dval_upd hK, show o (i + m) + c - o (i + m) = c by omega, h, hM, dval_s, Int.add_mul, ha, Int.mul_assoc (dg N i), Int.mul_comm M, ← Int.mul_assoc]
theorem mul_inner {a : Int} {N M : Int} {i k : Nat} : dval (dg N) i * M + a * dval (dg M) (k + 1) * bp i = dval (dg N) i * M + a * dval (dg M) k * bp i + a * dg M k * bp (i + k) := by
  rw [dval_s, Int.mul_add, Int.add_mul, Nat.add_comm i k, bp_add]
  simp only [Int.mul_assoc]
  omega
end Go.Proofs.YtnfoagcpgegldaaGreat
namespace Go.Proofs.YtnfoagcpgegldaaGreat
open Go.RowKit Go.Shelf Go.Sort
attribute [local go_sem] idx3_0 idx3_1 idx3_2 old1 fro1 old2 fro2 old3 fro3 old4 fro4 old5 fro5 old6 fro6 old7 fro7 old8 fro8 old9 fro9 old10 fro10 old11 fro11 old12 fro12
/-- A row of n digits of a number that is not below 0. -/
theorem thenD {w X Y : World} (h : Below w.heap.size w X) (h2 : Below X.heap.size X Y) : Below w.heap.size w Y := h.trans (h2.mono h.size)
def DR (w : World) (A : Option Addr) (n c : Nat) (N : Int) : Prop := ((A = none ∧ n = 0 ∧ c = 0) ∨ ∃ g, A = some ⟨g, 0, none⟩ ∧ n ≤ c ∧ c ≤ 9223372036854775807) ∧ ∀ g, A = some ⟨g, 0, none⟩ → g < w.heap.size ∧ ∀ i, i < n → w.cell? ⟨g, i, none⟩ = some (.int .i64 (dg N i))
/-- .. that the call itself made. -/
def DN (w w' : World) (A : Option Addr) (n c : Nat) (N : Int) : Prop := DR w' A n c N ∧ ∀ g, A = some ⟨g, 0, none⟩ → w.heap.size ≤ g
theorem DR.below {w W : World} {A : Option Addr} {n c : Nat} {N : Int} (h : DR w A n c N) (hb : Below w.heap.size w W) : DR W A n c N := ⟨h.1, fun g e => ⟨Nat.lt_of_lt_of_le (h.2 g e).1 hb.size, fun i hi => keep hb ((h.2 g e).2 i hi)⟩⟩
theorem DR.less {w : World} {A : Option Addr} {n m c : Nat} {N : Int} (h : DR w A n c N) (hm : m ≤ n) : DR w A m c N := by
  refine ⟨?_, fun g e => ⟨(h.2 g e).1, fun i hi => (h.2 g e).2 i (by omega)⟩⟩
  rcases h.1 with ⟨e, a, b⟩ | ⟨g, e, q, q2⟩
  · exact .inl ⟨e, by omega, b⟩
  · exact .inr ⟨g, e, by omega, q2⟩
theorem DR.len {w : World} {A : Option Addr} {n c : Nat} {N : Int} (h : DR w A n c N) : n ≤ c ∧ c ≤ 9223372036854775807 := by
  rcases h.1 with ⟨e, a, b⟩ | ⟨g, e, q, q2⟩
  · omega
  · exact ⟨q, q2⟩
theorem own_dr {w : World} {base e n : Nat} {v : Value} {N : Int} (h : w.ownsRow base e 1 v n (intsV n (dg N))) : v = .slice (sA v) n (sC v) ∧ DR w (sA v) n (sC v) N ∧ ∀ g, sA v = some ⟨g, 0, none⟩ → base ≤ g := by
  obtain ⟨h1, h2⟩ := own_intsV h
  have hlt : ∀ g, sA v = some ⟨g, 0, none⟩ → base ≤ g ∧ g < w.heap.size := fun g hg => h.lt g (by rw [h1, hg]; rfl)
  refine ⟨h1, ⟨?_, fun g eg => ⟨(hlt g eg).2, fun i hi => ?_⟩⟩, fun g hg => (hlt g hg).1⟩
  · rcases h.2 with ⟨rfl, rfl⟩ | ⟨g, cap, cur, rfl, _, _, q1, q2, _⟩
    · exact .inl ⟨rfl, rfl, rfl⟩
    · exact .inr ⟨g, rfl, q1, by unfold maxLen at q2; show cap ≤ _; omega⟩
  · obtain ⟨b, off, e2, hc⟩ := h2 (by omega)
    rw [eg] at e2
    simp only [Option.some.injEq, Addr.mk.injEq] at e2
    obtain ⟨rfl, rfl, _⟩ := e2
    have := hc i hi
    rwa [Nat.zero_add] at this
set_option maxRecDepth 100000 in
set_option maxHeartbeats 2000000 in
theorem trimmed_nil (w : World) : Calls Tryz.prog 158 #[.slice none 0 0] w fun e w' => e = .returned (.slice none 0 0) ∧ Below w.heap.size w w' := by
  go_enter Tryz.func158, Tryz.ntmps158
  go_wp2_with fail
  go_loopw [3] (fun s3 wr => s3 = .int .i64 0 ∧ Below w.heap.size w wr) (fun _ _ => 0)
  case atStart => exact ⟨rfl, Below.refl _ _⟩
  case round =>
    obtain ⟨rfl, hb⟩ := hrel
    go_wp2_with fail
    go_ret
    exact ⟨rfl, hb⟩
set_option maxRecDepth 100000 in
set_option maxHeartbeats 2000000 in
theorem trimmed_some (g n c : Nat) (N : Int) (w : World) (hc : n ≤ c) (hc2 : c ≤ 9223372036854775807) (n60 : n ≤ 60) (N0 : 0 ≤ N) (hN : N < bp n) (hA : ∀ i, i < n → w.cell? ⟨g, i, none⟩ = some (.int .i64 (dg N i))) :
    Calls Tryz.prog 158 #[.slice (some ⟨g, 0, none⟩) n c] w fun e w' => e = .returned (.slice (some ⟨g, 0, none⟩) (ln N) c) ∧ Below w.heap.size w w' := by
  have HN := Lib.hid hN
  have HA := Lib.hid hA
  have H60 := Lib.hid (Int.lt_of_lt_of_le hN (bp_mono n60))
  clear hA hN
  go_enter Tryz.func158, Tryz.ntmps158
  go_wp2_with fail
  go_loopw [3] (fun s3 wr => ∃ (j : Nat) (J : Int), j ≤ n ∧ J = j ∧ s3 = .int .i64 J ∧ Below w.heap.size w wr ∧ Hid (N < bp j)) (fun i _ => (intOf i).toNat)
  case atStart => exact ⟨n, n, Nat.le_refl _, rfl, rfl, Below.refl _ _, HN.out⟩
  case round =>
    obtain ⟨j, J, hj, hJ, rfl, hb, HJ⟩ := hrel
    rcases Nat.eq_zero_or_pos j with rfl | hj0
    · obtain rfl : J = 0 := hJ
      have hl : ln N = 0 := (ln_unique N0 H60.out HJ.out (.inl rfl)).symm
      have HL := Lib.hid hl
      clear hl
      have p1 : (0 : Int) ≤ (c : Int) := by omega
      go_wp2_with fail
      go_ret
      exact ⟨by rw [HL.out]; rfl, hb⟩
    · obtain ⟨i, rfl⟩ : ∃ i, j = i + 1 := ⟨j - 1, by omega⟩
      obtain rfl : J = (i : Int) + 1 := by omega
      have c1 := keep hb (HA.out i (by omega))
      have p0 : (0 : Int) < (i : Int) + 1 := by omega
      have p1 : IntKind.i64.wrap ((i : Int) + 1 - 1) = (i : Int) := by rw [IntWalk.i64_in _ (by omega)]; omega
      have p2 : (i : Int) < (n : Int) := by omega
      have p3 : (0 : Int) ≤ (i : Int) := by omega
      have p4 : (i : Int) + 1 ≤ (c : Int) := by omega
      have p5 : (0 : Int) ≤ (i : Int) + 1 := by omega
      have p6 : ((i : Int) + 1).toNat = i + 1 := by omega
      clear hJ
      by_cases hz : dg N i = 0
      · have HZ := Lib.hid (trim_step N0 HJ.out hz)
        rw [hz] at c1
        clear hz
        go_wp2_with fail
        go_roundw
        case rel => exact ⟨i, i, by omega, rfl, rfl, hb, HZ.out⟩
        case measure => simp [intOf]
      · have hl : ln N = i + 1 := (ln_unique N0 H60.out HJ.out (.inr (by rw [Nat.add_sub_cancel]; exact trim_end N0 HJ.out hz))).symm
        have z1 : (dg N i == 0) = false := by simp [hz]
        have HL := Lib.hid hl
        clear hz hl
        generalize dg N i = D at *
        go_wp2_with fail
        go_ret
        exact ⟨by rw [HL.out]; rfl, hb⟩
theorem trimmed_any (A : Option Addr) (n c : Nat) (N : Int) (w : World) (n60 : n ≤ 60) (N0 : 0 ≤ N) (hN : N < bp n) (hA : DR w A n c N) :
    Calls Tryz.prog 158 #[.slice A n c] w fun e w' => e = .returned (.slice A (ln N) c) ∧ Below w.heap.size w w' := by
  rcases hA.1 with ⟨rfl, rfl, rfl⟩ | ⟨g, rfl, hc, hc2⟩
  · have : N = 0 := by rw [bp_0] at hN; omega
    subst this
    exact trimmed_nil w
  · exact trimmed_some g n c N w hc hc2 n60 N0 hN (hA.2 g rfl).2
set_option maxRecDepth 100000 in
set_option maxHeartbeats 2000000 in
theorem wideOf_any (sg : Int) (A : Option Addr) (n c : Nat) (N : Int) (w : World) (n60 : n ≤ 60) (N0 : 0 ≤ N) (hN : N < bp n) (hA : DR w A n c N) :
    Calls Tryz.prog 141 #[.int .i64 sg, .slice A n c] w fun e w' => e = .returned (.agg #[.int .i64 (if N = 0 then 0 else sg), .slice A (ln N) c]) ∧ Below w.heap.size w w' := by
  have HT := fun W hW => Lib.hid (trimmed_any A n c N W n60 N0 hN hW)
  have HA := Lib.hid hA
  have h60 := Int.lt_of_lt_of_le hN (bp_mono n60)
  have hz := ln_eq0 N0 h60
  have hl := (ln_spec N0 h60).2.2
  clear hA h60 hN
  generalize ln N = L at *
  by_cases h0 : L = 0
  · subst h0
    rw [if_pos (hz.1 rfl)]
    clear hz hl
    go_enter Tryz.func141, Tryz.ntmps141
    go_wp2_with (first
      | (go_at_call 158; (with_reducible refine Calls.mono (HT _ (HA.out.below (show Below w.heap.size w _ by (repeat (first | with_reducible exact Below.refl _ _ | with_reducible assumption | with_reducible refine Below.alloc ?_ (by first | (simp; done) | (simp; omega) | omega) _ | with_reducible refine Below.setCell ?_ (by first | (simp; done) | (simp; omega) | omega) _ | with_reducible refine Below.drew ?_ | with_reducible refine below_drewN ?_ _))))).out ?_); rintro e w1 ⟨rfl, hb1⟩; have B1 := Lib.hid (thenD (show Below w.heap.size w _ by (repeat (first | with_reducible exact Below.refl _ _ | with_reducible assumption | with_reducible refine Below.alloc ?_ (by first | (simp; done) | (simp; omega) | omega) _ | with_reducible refine Below.setCell ?_ (by first | (simp; done) | (simp; omega) | omega) _ | with_reducible refine Below.drew ?_ | with_reducible refine below_drewN ?_ _))) hb1); have r0 := (hb1.cell (p := ⟨w.heap.size, 0, none⟩) (by first | (simp; done) | (simp; omega) | omega)).trans (show _ = some (.int .i64 0) by simp [go_sem]); have r1 := (hb1.cell (p := ⟨w.heap.size, 1, none⟩) (by first | (simp; done) | (simp; omega) | omega)).trans (show _ = some (.slice none 0 0) by simp [go_sem]); have f0 := (hb1.frozen (p := ⟨w.heap.size, 0, none⟩) (by first | (simp; done) | (simp; omega) | omega)).trans (show _ = false by simp [go_sem]); have f1 := (hb1.frozen (p := ⟨w.heap.size, 1, none⟩) (by first | (simp; done) | (simp; omega) | omega)).trans (show _ = false by simp [go_sem]); clear hb1))
    refine bodyPost_ret (v := .agg #[.int .i64 0, .slice A 0 c]) (by simp [results, Tryz.results141, go_sem, *]) rfl ⟨rfl, ?_⟩
    have B := B1.out
    (repeat (first | with_reducible exact Below.refl _ _ | with_reducible assumption | with_reducible refine Below.alloc ?_ (by first | (simp; done) | (simp; omega) | omega) _ | with_reducible refine Below.setCell ?_ (by first | (simp; done) | (simp; omega) | omega) _ | with_reducible refine Below.drew ?_ | with_reducible refine below_drewN ?_ _))
  · rw [if_neg (fun h => h0 (hz.2 h))]
    have g0 : ((L : Int) == 0) = false := by simp; omega
    clear hz
    go_enter Tryz.func141, Tryz.ntmps141
    go_wp2_with (first
      | (go_at_call 158; (with_reducible refine Calls.mono (HT _ (HA.out.below (show Below w.heap.size w _ by (repeat (first | with_reducible exact Below.refl _ _ | with_reducible assumption | with_reducible refine Below.alloc ?_ (by first | (simp; done) | (simp; omega) | omega) _ | with_reducible refine Below.setCell ?_ (by first | (simp; done) | (simp; omega) | omega) _ | with_reducible refine Below.drew ?_ | with_reducible refine below_drewN ?_ _))))).out ?_); rintro e w1 ⟨rfl, hb1⟩; have B1 := Lib.hid (thenD (show Below w.heap.size w _ by (repeat (first | with_reducible exact Below.refl _ _ | with_reducible assumption | with_reducible refine Below.alloc ?_ (by first | (simp; done) | (simp; omega) | omega) _ | with_reducible refine Below.setCell ?_ (by first | (simp; done) | (simp; omega) | omega) _ | with_reducible refine Below.drew ?_ | with_reducible refine below_drewN ?_ _))) hb1); have r0 := (hb1.cell (p := ⟨w.heap.size, 0, none⟩) (by first | (simp; done) | (simp; omega) | omega)).trans (show _ = some (.int .i64 0) by simp [go_sem]); have r1 := (hb1.cell (p := ⟨w.heap.size, 1, none⟩) (by first | (simp; done) | (simp; omega) | omega)).trans (show _ = some (.slice none 0 0) by simp [go_sem]); have f0 := (hb1.frozen (p := ⟨w.heap.size, 0, none⟩) (by first | (simp; done) | (simp; omega) | omega)).trans (show _ = false by simp [go_sem]); have f1 := (hb1.frozen (p := ⟨w.heap.size, 1, none⟩) (by first | (simp; done) | (simp; omega) | omega)).trans (show _ = false by simp [go_sem]); clear hb1))
    refine bodyPost_ret (v := .agg #[.int .i64 sg, .slice A L c]) (by simp [results, Tryz.results141, go_sem, *]) rfl ⟨rfl, ?_⟩
    have B := B1.out
    (repeat (first | with_reducible exact Below.refl _ _ | with_reducible assumption | with_reducible refine Below.alloc ?_ (by first | (simp; done) | (simp; omega) | omega) _ | with_reducible refine Below.setCell ?_ (by first | (simp; done) | (simp; omega) | omega) _ | with_reducible refine Below.drew ?_ | with_reducible refine below_drewN ?_ _))
end Go.Proofs.YtnfoagcpgegldaaGreat
namespace Go.Proofs.YtnfoagcpgegldaaGreat
open Go.RowKit Go.Shelf Go.Sort
attribute [local go_sem] idx3_0 idx3_1 idx3_2 old1 fro1 old2 fro2 old3 fro3 old4 fro4 old5 fro5 old6 fro6 old7 fro7 old8 fro8 old9 fro9 old10 fro10 old11 fro11 old12 fro12
set_option maxRecDepth 100000 in
set_option maxHeartbeats 800000 in
theorem digit_any (A : Option Addr) (n c i : Nat) (N : Int) (w : World) (_ : n ≤ 60) (hi : i ≤ 100) (N0 : 0 ≤ N) (hN : N < bp n) (hA : DR w A n c N) :
    Calls Tryz.prog 159 #[.slice A n c, .int .i64 i] w fun e w' => e = .returned (.int .i64 (dg N i)) ∧ w = w' := by
  by_cases h : i < n
  · rcases hA.1 with ⟨_, h0, _⟩ | ⟨g, rfl, hc, hc2⟩
    · omega
    · have c1 := (hA.2 g rfl).2 i h
      have p1 : (i : Int) < (n : Int) := by omega
      have p2 : (0 : Int) ≤ (i : Int) := by omega
      clear hA hN N0
      generalize dg N i = D at *
      go_enter Tryz.func159, Tryz.ntmps159
      go_wp2_with fail
      go_ret
      exact ⟨rfl, rfl⟩
  · have p1 : ¬ (i : Int) < (n : Int) := by omega
    rw [dg_out N0 hN (by omega)]
    clear hA hN N0
    go_enter Tryz.func159, Tryz.ntmps159
    go_wp2_with fail
    go_ret
    exact ⟨rfl, rfl⟩
theorem cmp_len {N M : Int} (N0 : 0 ≤ N) (hN : N < bp 60) (M0 : 0 ≤ M) (hM : M < bp 60) (h : ln N < ln M) : N < M := by
  have a := (ln_spec N0 hN).1
  rcases (ln_spec M0 hM).2.1 with b | b
  · omega
  · have := bp_mono (show ln N ≤ ln M - 1 by omega)
    omega
theorem cmp_top {N M : Int} {n i : Nat} (N0 : 0 ≤ N) (hN : N < bp n) (M0 : 0 ≤ M) (hM : M < bp n) (hi : i < n) (he : ∀ l, i < l → l < n → dg N l = dg M l) (h : dg N i < dg M i) : N < M := by
  have := dval_top_lt (dg_dig N n) (dg_dig M n) hi h he
  rwa [dg_all N0 hN, dg_all M0 hM] at this
theorem cmp_same {N M : Int} {n : Nat} (N0 : 0 ≤ N) (hN : N < bp n) (M0 : 0 ≤ M) (hM : M < bp n) (he : ∀ l, l < n → dg N l = dg M l) : N = M := by
  have := dval_congr he
  rwa [dg_all N0 hN, dg_all M0 hM] at this
set_option maxRecDepth 100000 in
set_option maxHeartbeats 2000000 in
theorem cmpDigits_len (A B : Option Addr) (n m c c' : Nat) (w : World) (_ : n ≤ 60) (_ : m ≤ 60) (h : n ≠ m) :
    Calls Tryz.prog 143 #[.slice A n c, .slice B m c'] w fun e w' => e = .returned (.int .i64 (if n < m then -1 else 1)) ∧ Below w.heap.size w w' := by
  by_cases hl : n < m
  · rw [if_pos hl]
    have p1 : (n : Int) < (m : Int) := by omega
    have p2 : ((n : Int) != (m : Int)) = true := by simp; omega
    clear h hl
    go_enter Tryz.func143, Tryz.ntmps143
    go_wp2_with fail
    go_ret
    exact ⟨rfl, by (repeat (first | with_reducible exact Below.refl _ _ | with_reducible assumption | with_reducible refine Below.alloc ?_ (by first | (simp; done) | (simp; omega) | omega) _ | with_reducible refine Below.setCell ?_ (by first | (simp; done) | (simp; omega) | omega) _ | with_reducible refine Below.drew ?_ | with_reducible refine below_drewN ?_ _))⟩
  · rw [if_neg hl]
    have p1 : ¬ (n : Int) < (m : Int) := by omega
    have p2 : ((n : Int) != (m : Int)) = true := by simp; omega
    clear h hl
    go_enter Tryz.func143, Tryz.ntmps143
    go_wp2_with fail
    go_ret
    exact ⟨rfl, by (repeat (first | with_reducible exact Below.refl _ _ | with_reducible assumption | with_reducible refine Below.alloc ?_ (by first | (simp; done) | (simp; omega) | omega) _ | with_reducible refine Below.setCell ?_ (by first | (simp; done) | (simp; omega) | omega) _ | with_reducible refine Below.drew ?_ | with_reducible refine below_drewN ?_ _))⟩
set_option maxRecDepth 100000 in
set_option maxHeartbeats 2000000 in
theorem cmpDigits_eq (A B : Option Addr) (n c c' : Nat) (N M : Int) (w : World) (hn : n ≤ 60) (N0 : 0 ≤ N) (hN : N < bp n) (hA : DR w A n c N) (M0 : 0 ≤ M) (hM : M < bp n) (hB : DR w B n c' M) :
    Calls Tryz.prog 143 #[.slice A n c, .slice B n c'] w fun e w' => e = .returned (.int .i64 (cmpI N M)) ∧ Below w.heap.size w w' := by
  have HTOP := fun i hi he h => Lib.hid (cmp_top (i := i) N0 hN M0 hM hi he h)
  have HTOP2 := fun i hi he h => Lib.hid (cmp_top (i := i) M0 hM N0 hN hi he h)
  have HS := fun he => Lib.hid (cmp_same N0 hN M0 hM he)
  have HA := Lib.hid hA
  have HB := Lib.hid hB
  clear hA hB N0 hN M0 hM
  have p0 : IntKind.i64.wrap ((n : Int) - 1) = (n : Int) - 1 := IntWalk.i64_in _ (by omega)
  go_enter Tryz.func143, Tryz.ntmps143
  go_wp2_with fail
  go_loopw [5] (fun s5 wr => ∃ (j : Nat) (J : Int), j ≤ n ∧ J + 1 = j ∧ s5 = .int .i64 J ∧ Below w.heap.size w wr ∧ Hid (∀ l, j ≤ l → l < n → dg N l = dg M l)) (fun i _ => (intOf i + 1).toNat)
  case atStart => exact ⟨n, (n : Int) - 1, Nat.le_refl _, by omega, rfl, Below.refl _ _, fun l h1 h2 => by omega⟩
  case round =>
    obtain ⟨j, J, hj, hJ, rfl, hb, HE⟩ := hrel
    rcases Nat.eq_zero_or_pos j with rfl | hj0
    · have p1 : ¬ 0 ≤ J := by omega
      have HV := Lib.hid (HS (fun l hl => HE.out l (Nat.zero_le _) hl)).out
      go_wp2_with fail
      go_ret
      exact ⟨ret_int (cmpI_eq HV.out).symm, hb⟩
    · obtain ⟨i, rfl⟩ : ∃ i, j = i + 1 := ⟨j - 1, by omega⟩
      obtain rfl : J = (i : Int) := by omega
      rcases HA.out.1 with ⟨_, h0, _⟩ | ⟨g, rfl, hc, hc2⟩
      · omega
      rcases HB.out.1 with ⟨_, h0, _⟩ | ⟨g', rfl, hc', hc2'⟩
      · omega
      have c1 := keep hb ((HA.out.2 g rfl).2 i (by omega))
      have c2 := keep hb ((HB.out.2 g' rfl).2 i (by omega))
      have p1 : (0 : Int) ≤ (i : Int) := by omega
      have p2 : (i : Int) < (n : Int) := by omega
      have p3 : IntKind.i64.wrap ((i : Int) - 1) = (i : Int) - 1 := IntWalk.i64_in _ (by omega)
      have hlt : i < n := by omega
      have HT1 := Lib.hid (HTOP i hlt (fun l a b => HE.out l (by omega) b))
      have HT2 := Lib.hid (HTOP2 i hlt (fun l a b => (HE.out l (by omega) b).symm))
      rcases Int.lt_trichotomy (dg N i) (dg M i) with h | h | h
      · have HV := Lib.hid (HT1.out h).out
        clear HT1 HT2
        generalize dg N i = X at *
        generalize dg M i = Y at *
        go_wp2_with fail
        go_region_held3 (fun w' => w'.cell? ⟨g, i, none⟩ = some (.int .i64 X) ∧ w'.cell? ⟨g', i, none⟩ = some (.int .i64 Y)) (simp [go_sem, *]) (first | fail)
        all_goals
          go_wp2_with fail
          go_ret
          exact ⟨ret_int (cmpI_lt HV.out).symm, by (repeat (first | with_reducible exact Below.refl _ _ | with_reducible assumption | with_reducible refine Below.alloc ?_ (by first | (simp; done) | (simp; omega) | omega) _ | with_reducible refine Below.setCell ?_ (by first | (simp; done) | (simp; omega) | omega) _ | with_reducible refine Below.drew ?_ | with_reducible refine below_drewN ?_ _))⟩
      · have HX := Lib.hid h
        rw [h] at c1
        have q1 : ¬ dg M i < dg M i := Int.lt_irrefl _
        clear h HT1 HT2
        generalize hY : dg M i = Y at *
        have HY := Lib.hid hY
        clear hY
        go_wp2_with fail
        go_region_held3 (fun w' => w'.cell? ⟨g, i, none⟩ = some (.int .i64 Y) ∧ w'.cell? ⟨g', i, none⟩ = some (.int .i64 Y)) (simp [go_sem, *]) (first | fail)
        all_goals
          go_wp2_with fail
          go_region_held3 (fun w' => w'.cell? ⟨g, i, none⟩ = some (.int .i64 Y) ∧ w'.cell? ⟨g', i, none⟩ = some (.int .i64 Y)) (simp [go_sem, *]) (first | fail)
          all_goals
            go_wp2_with fail
            go_roundw
            case rel => exact ⟨i, (i : Int) - 1, by omega, by omega, rfl, by (repeat (first | with_reducible exact Below.refl _ _ | with_reducible assumption | with_reducible refine Below.alloc ?_ (by first | (simp; done) | (simp; omega) | omega) _ | with_reducible refine Below.setCell ?_ (by first | (simp; done) | (simp; omega) | omega) _ | with_reducible refine Below.drew ?_ | with_reducible refine below_drewN ?_ _)), fun l a b => by
              rcases Nat.eq_or_lt_of_le a with e | e
              · rw [← e, HX.out, HY.out]
              · exact HE.out l (by omega) b⟩
            case measure => simp [intOf]
      · have HV := Lib.hid (HT2.out h).out
        have q1 : ¬ dg N i < dg M i := by omega
        clear HT1 HT2
        generalize dg N i = X at *
        generalize dg M i = Y at *
        go_wp2_with fail
        go_region_held3 (fun w' => w'.cell? ⟨g, i, none⟩ = some (.int .i64 X) ∧ w'.cell? ⟨g', i, none⟩ = some (.int .i64 Y)) (simp [go_sem, *]) (first | fail)
        all_goals
          go_wp2_with fail
          go_region_held3 (fun w' => w'.cell? ⟨g, i, none⟩ = some (.int .i64 X) ∧ w'.cell? ⟨g', i, none⟩ = some (.int .i64 Y)) (simp [go_sem, *]) (first | fail)
          all_goals
            go_wp2_with fail
            go_ret
            exact ⟨ret_int (cmpI_gt HV.out).symm, by (repeat (first | with_reducible exact Below.refl _ _ | with_reducible assumption | with_reducible refine Below.alloc ?_ (by first | (simp; done) | (simp; omega) | omega) _ | with_reducible refine Below.setCell ?_ (by first | (simp; done) | (simp; omega) | omega) _ | with_reducible refine Below.drew ?_ | with_reducible refine below_drewN ?_ _))⟩
theorem cmpDigits_any (A B : Option Addr) (c c' : Nat) (N M : Int) (w : World) (N0 : 0 ≤ N) (hN : N < bp 60) (hA : DR w A (ln N) c N) (M0 : 0 ≤ M) (hM : M < bp 60) (hB : DR w B (ln M) c' M) :
    Calls Tryz.prog 143 #[.slice A (ln N) c, .slice B (ln M) c'] w fun e w' => e = .returned (.int .i64 (cmpI N M)) ∧ Below w.heap.size w w' := by
  obtain ⟨a1, _, a3⟩ := ln_spec N0 hN
  obtain ⟨b1, _, b3⟩ := ln_spec M0 hM
  by_cases h : ln N = ln M
  · rw [h] at hA a1 ⊢
    exact cmpDigits_eq A B (ln M) c c' N M w b3 N0 a1 hA M0 b1 hB
  · refine (cmpDigits_len A B (ln N) (ln M) c c' w a3 b3 h).mono ?_
    rintro e w' ⟨rfl, hb⟩
    refine ⟨ret_int ?_, hb⟩
    by_cases hl : ln N < ln M
    · rw [if_pos hl, cmpI_lt (cmp_len N0 hN M0 hM hl)]
    · rw [if_neg hl, cmpI_gt (cmp_len M0 hM N0 hN (by omega))]
theorem cyA_far {N M : Int} {n m k : Nat} (N0 : 0 ≤ N) (hN : N < bp n) (M0 : 0 ≤ M) (hM : M < bp m) (h1 : n < k) (h2 : m < k) : cyA N M k = 0 := by
  have a := bp_mono (show n ≤ k - 1 by omega)
  have b := bp_mono (show m ≤ k - 1 by omega)
  have e : bp k = bp (k - 1) * 1000000000 := by rw [← bp_s, show k - 1 + 1 = k by omega]
  have hp := bp_pos (k - 1)
  unfold cyA
  rw [dg_all N0 (show N < bp k by omega), dg_all M0 (show M < bp k by omega)]
  exact Int.ediv_eq_zero_of_lt (by omega) (by omega)
set_option maxRecDepth 100000 in
set_option maxHeartbeats 2000000 in
theorem addDigits_any (A B : Option Addr) (n m c c' : Nat) (N M : Int) (w : World) (hn : n ≤ 58) (hm : m ≤ 58) (N0 : 0 ≤ N) (hN : N < bp n) (hA : DR w A n c N) (M0 : 0 ≤ M) (hM : M < bp m) (hB : DR w B m c' M) :
    Calls Tryz.prog 142 #[.slice A n c, .slice B m c'] w fun e w' => ∃ A' k c2, e = .returned (.slice A' k c2) ∧ k ≤ 59 ∧ N + M < bp k ∧ DN w w' A' k c2 (N + M) ∧ Below w.heap.size w w' := by
  have HD1 := fun W i hi hW => Lib.hid (digit_any A n c i N W (by omega) hi N0 hN hW)
  have HD2 := fun W i hi hW => Lib.hid (digit_any B m c' i M W (by omega) hi M0 hM hW)
  have HF := fun k a b => Lib.hid (cyA_far (k := k) N0 hN M0 hM a b)
  have HEN := fun (k : Nat) (a : n ≤ k) (b : m ≤ k) hc => Lib.hid (add_end N0 (Int.lt_of_lt_of_le hN (bp_mono a)) M0 (Int.lt_of_lt_of_le hM (bp_mono b)) hc)
  have HA := Lib.hid hA
  have HB := Lib.hid hB
  clear hA hB N0 hN M0 hM
  obtain ⟨i0, hi0, hz0, hz1, hz2⟩ := info_parts infoInt
  go_enter Tryz.func142, Tryz.ntmps142
  go_wp2_with fail
  go_loopw [5, 6, 7] (fun s5 s6 s7 wr => ∃ k : Nat, (k ≤ n ∨ k ≤ m ∨ k ≤ n + 1 ∨ k ≤ m + 1) ∧ s6 = .int .i64 (cyA N M k) ∧ s7 = .int .i64 k ∧ Below w.heap.size w wr ∧ Hid (wr.ownsRow w.heap.size 3 1 s5 k (intsV k (dg (N + M))))) (fun _ _ i _ => 60 - (intOf i).toNat)
  case atStart => exact ⟨0, by omega, rfl, rfl, Below.refl _ _, World.ownsRow_nil _ _ _ _⟩
  case round =>
    obtain ⟨k, hk, rfl, rfl, hb, HO⟩ := hrel
    have hc := cyA_bd N M k
    have hws := hb.size
    by_cases hcond : k < n ∨ k < m ∨ 0 < cyA N M k
    · have hk59 : k ≤ 58 := by
        rcases hcond with h | h | h
        · omega
        · omega
        · rcases Nat.lt_or_ge n k with q | q
          · rcases Nat.lt_or_ge m k with q' | q'
            · have := (HF k q q').out; omega
            · omega
          · omega
      have hk60 : k + 1 ≤ n ∨ k + 1 ≤ m ∨ k + 1 ≤ n + 1 ∨ k + 1 ≤ m + 1 := by
        rcases hcond with h | h | h
        · omega
        · omega
        · rcases Nat.lt_or_ge n k with q | q
          · rcases Nat.lt_or_ge m k with q' | q'
            · have := (HF k q q').out; omega
            · omega
          · omega
      have b1 := dg_bd N k
      have b2 := dg_bd M k
      have HX := Lib.hid (add_dg N M k)
      have HY := Lib.hid (cyA_s N M k)
      have HK := Lib.hid (intsV_s k (dg (N + M)))
      have HD1k := fun W hW => HD1 W k (by omega) hW
      have HD2k := fun W hW => HD2 W k (by omega) hW
      generalize hCn : cyA N M (k + 1) = C' at *
      have HCn := Lib.hid hCn
      clear hCn
      generalize cyA N M k = C at *
      generalize dg N k = X at *
      generalize dg M k = Y at *
      generalize dg (N + M) k = Z at *
      have u1 : IntKind.i64.wrap (X + Y) = X + Y := IntWalk.i64_in _ (by omega)
      have u2 : IntKind.i64.wrap (X + Y + C) = X + Y + C := IntWalk.i64_in _ (by omega)
      have u3 : (X + Y + C).tmod 1000000000 = Z := by rw [Int.tmod_eq_emod_of_nonneg (by omega), HX.out]
      have u4 : (X + Y + C).tdiv 1000000000 = C' := by rw [Int.tdiv_eq_ediv_of_nonneg (by omega), HY.out]
      have u5' : IntKind.i64.wrap C' = C' := IntWalk.i64_in _ (by have := HY.out; omega)
      have u7 : IntKind.i64.wrap ((k : Int) + 1) = (k : Int) + 1 := IntWalk.i64_in _ (by omega)
      have g0 : (0 : Int) ≤ (k : Int) := by omega
      rcases (by omega : (k : Int) < (n : Int) ∨ (¬ (k : Int) < (n : Int) ∧ (k : Int) < (m : Int)) ∨ (¬ (k : Int) < (n : Int) ∧ ¬ (k : Int) < (m : Int) ∧ 0 < C)) with q1 | ⟨q1, q2⟩ | ⟨q1, q2, q3⟩
      all_goals
        clear hcond hk
        go_wp2_with (first
          | (go_at_call 159; (with_reducible refine Calls.mono (HD1k wr (HA.out.below hb)).out ?_); rintro e w1 ⟨rfl, rfl⟩)
          | (go_at_call 159; (with_reducible refine Calls.mono (HD2k wr (HB.out.below hb)).out ?_); rintro e w1 ⟨rfl, rfl⟩)
          | (at_builtin; go_loud (refine wpList_append_own_at _ rfl _ _ 84 rfl w.heap.size 3 i0 _ 1 8 undInts hi0 hz0 hz1 hz2 rfl (by decide) u5 _ _ rfl (HO.out.alloc _) ⟨wr.heap.size, 0, none⟩ 1 1 [.int .i64 Z] rfl rfl (by simpa using news1 wr _ _) (by simp [Value.oneCell']) (by unfold maxLen; omega) (by omega) (by simp; omega) ?_; intro v' w5 hown' hgrow hnil hloc; have HO5 := Lib.hid hown'; have HG5 := Lib.hid hgrow; clear hown' hgrow hnil hloc))
          | fail)
        go_roundw
        case rel =>
          have hB5 : Below w.heap.size wr w5 := by
            have hs := hb.size
            first
              | exact ((Below.refl w.heap.size wr).alloc hs _).grown HG5.out (by simp; omega) (fun k h => (HO.out.lt k h).1)
              | exact (((Below.refl w.heap.size wr).alloc hs _).drew).grown HG5.out (by simp; omega) (fun k h => (HO.out.lt k h).1)
          refine ⟨k + 1, hk60, by rw [HCn.out], by go_num, hb.trans hB5, ?_⟩
          show w5.ownsRow _ _ _ _ _ _
          rw [HK.out]
          exact HO5.out
        case measure => simp [intOf]; omega
    · have q1 : ¬ (k : Int) < (n : Int) := by omega
      have q2 : ¬ (k : Int) < (m : Int) := by omega
      have q3 : ¬ 0 < cyA N M k := by omega
      have hc0 : cyA N M k = 0 := by omega
      have HEk := Lib.hid (HEN k (by omega) (by omega) hc0).out
      have hk59 : k ≤ 59 := by omega
      obtain ⟨e5, D5, G5⟩ := own_dr HO.out
      clear HO hcond hc hc0 hk
      generalize sA u5 = A5 at *
      generalize sC u5 = C5 at *
      subst e5
      have HD5 := Lib.hid D5
      have HG5 := Lib.hid G5
      clear D5 G5
      go_wp2_with fail
      go_ret
      exact ⟨_, _, _, rfl, hk59, HEk.out, ⟨HD5.out, HG5.out⟩, hb⟩
end Go.Proofs.YtnfoagcpgegldaaGreat
namespace Go.Proofs.YtnfoagcpgegldaaGreat
open Go.RowKit Go.Shelf Go.Sort
attribute [local go_sem] idx3_0 idx3_1 idx3_2 old1 fro1 old2 fro2 old3 fro3 old4 fro4 old5 fro5 old6 fro6 old7 fro7 old8 fro8 old9 fro9 old10 fro10 old11 fro11 old12 fro12
theorem sub_round {X Y C Z C' : Int} (x0 : 0 ≤ X) (x1 : X < 1000000000) (y0 : 0 ≤ Y) (y1 : Y < 1000000000) (c0 : -1 ≤ C) (c1 : C ≤ 0) (hZ : Z = (X - Y + C) % 1000000000) (hC : C' = (X - Y + C) / 1000000000) :
    (X - Y - -C < 0 → X - Y - -C + 1000000000 = Z ∧ -C' = 1) ∧ (¬ X - Y - -C < 0 → X - Y - -C = Z ∧ -C' = 0) := by omega
set_option maxRecDepth 100000 in
set_option maxHeartbeats 2000000 in
theorem subDigits_any (A B : Option Addr) (n m c c' : Nat) (N M : Int) (w : World) (hn : n ≤ 58) (hm : m ≤ 58) (_ : 0 ≤ N) (hN : N < bp n) (hA : DR w A n c N) (M0 : 0 ≤ M) (hM : M < bp m) (hB : DR w B m c' M) (hle : M ≤ N) :
    Calls Tryz.prog 144 #[.slice A n c, .slice B m c'] w fun e w' => ∃ A' c2, e = .returned (.slice A' (ln (N - M)) c2) ∧ DN w w' A' (ln (N - M)) c2 (N - M) ∧ Below w.heap.size w w' := by
  have HD2 := fun W i hi hW => Lib.hid (digit_any B m c' i M W (by omega) hi M0 hM hW)
  have HT := fun W A5 C5 hW => Lib.hid (trimmed_any A5 n C5 (N - M) W (by omega) (by omega) (show N - M < bp n by omega) hW)
  have HL := Lib.hid (show ln (N - M) ≤ n from by
    have h1 : N - M < bp n := by omega
    have h2 := ln_spec (N := N - M) (by omega) (Int.lt_of_lt_of_le h1 (bp_mono (show n ≤ 60 by omega)))
    rcases h2.2.1 with z | z
    · omega
    · rcases Nat.lt_or_ge n (ln (N - M)) with q | q
      · have := bp_mono (show n ≤ ln (N - M) - 1 by omega)
        omega
      · exact q)
  have HA := Lib.hid hA
  have HB := Lib.hid hB
  clear hA hB hN M0 hM hle
  obtain ⟨i0, hi0, hz0, hz1, hz2⟩ := info_parts infoInt
  go_enter Tryz.func144, Tryz.ntmps144
  go_wp2_with fail
  go_loopw [5, 6, 7] (fun s5 s6 s7 wr => ∃ k : Nat, k ≤ n ∧ s6 = .int .i64 (-cyS N M k) ∧ s7 = .int .i64 k ∧ Below w.heap.size w wr ∧ Hid (wr.ownsRow w.heap.size 3 1 s5 k (intsV k (dg (N - M))))) (fun _ _ i _ => n - (intOf i).toNat)
  case atStart => exact ⟨0, by omega, rfl, rfl, Below.refl _ _, World.ownsRow_nil _ _ _ _⟩
  case round =>
    obtain ⟨k, hk, rfl, rfl, hb, HO⟩ := hrel
    have hws := hb.size
    by_cases hcond : k < n
    · rcases HA.out.1 with ⟨_, h0, _⟩ | ⟨g, rfl, hcc, hcc2⟩
      · omega
      have cX := keep hb ((HA.out.2 g rfl).2 k hcond)
      have hc := cyS_bd N M k
      have b1 := dg_bd N k
      have b2 := dg_bd M k
      have hR := sub_round b1.1 b1.2 b2.1 b2.2 hc.1 hc.2 (sub_dg N M k) (cyS_s N M k)
      have HK := Lib.hid (intsV_s k (dg (N - M)))
      have HD2k := fun W hW => HD2 W k (by omega) hW
      generalize hCn : -cyS N M (k + 1) = C' at *
      have HCn := Lib.hid hCn
      clear hCn
      generalize hCC : -cyS N M k = C at *
      have hC0 : 0 ≤ C ∧ C ≤ 1 := by omega
      clear hCC hc
      generalize dg N k = X at *
      generalize dg M k = Y at *
      generalize dg (N - M) k = Z at *
      have u1 : IntKind.i64.wrap (X - Y) = X - Y := IntWalk.i64_in _ (by omega)
      have u2 : IntKind.i64.wrap (X - Y - C) = X - Y - C := IntWalk.i64_in _ (by omega)
      have u7 : IntKind.i64.wrap ((k : Int) + 1) = (k : Int) + 1 := IntWalk.i64_in _ (by omega)
      have g0 : (0 : Int) ≤ (k : Int) := by omega
      have g1 : (k : Int) < (n : Int) := by omega
      by_cases hs : X - Y - C < 0
      · obtain ⟨hz, hc'⟩ := hR.1 hs
        subst hc'
        have u3 : IntKind.i64.wrap (X - Y - C + 1000000000) = Z := by rw [IntWalk.i64_in _ (by omega)]; exact hz
        clear hR hz
        go_wp2_with fail
        go_region_held3 (fun w' => w'.cell? ⟨g, k, none⟩ = some (.int .i64 X)) (simp [go_sem, *])
          (first | (go_at_call 159; (with_reducible refine Calls.mono (HD2k _ (HB.out.below (show Below w.heap.size w _ by (repeat (first | with_reducible exact Below.refl _ _ | with_reducible assumption | with_reducible refine Below.alloc ?_ (by first | (simp; done) | (simp; omega) | omega) _ | with_reducible refine Below.setCell ?_ (by first | (simp; done) | (simp; omega) | omega) _ | with_reducible refine Below.drew ?_ | with_reducible refine below_drewN ?_ _))))).out ?_); rintro e w1 ⟨rfl, rfl⟩) | fail)
        all_goals
          go_wp2_with (first
            | (at_builtin; go_loud (refine wpList_append_own_at _ rfl _ _ 84 rfl w.heap.size 3 i0 _ 1 8 undInts hi0 hz0 hz1 hz2 rfl (by decide) u5 _ _ rfl ((HO.out.alloc _).drew) ⟨wr.heap.size, 0, none⟩ 1 1 [.int .i64 Z] rfl rfl (by simpa using news1 wr _ _) (by simp [Value.oneCell']) (by unfold maxLen; omega) (by omega) (by simp; omega) ?_; intro v' w5 hown' hgrow hnil hloc; have HO5 := Lib.hid hown'; have HG5 := Lib.hid hgrow; clear hown' hgrow hnil hloc))
            | fail)
          go_roundw
          case rel =>
            have hB5 : Below w.heap.size wr w5 := by
              have hs := hb.size
              first
                | exact ((Below.refl w.heap.size wr).alloc hs _).grown HG5.out (by simp; omega) (fun k h => (HO.out.lt k h).1)
                | exact (((Below.refl w.heap.size wr).alloc hs _).drew).grown HG5.out (by simp; omega) (fun k h => (HO.out.lt k h).1)
                | exact (((Below.refl w.heap.size wr).drew).alloc hs _).grown HG5.out (by simp; omega) (fun k h => (HO.out.lt k h).1)
                | exact ((((Below.refl w.heap.size wr).drew).alloc hs _).drew).grown HG5.out (by simp; omega) (fun k h => (HO.out.lt k h).1)
            refine ⟨k + 1, by omega, by rw [HCn.out], by go_num, hb.trans hB5, ?_⟩
            show w5.ownsRow _ _ _ _ _ _
            rw [HK.out]
            exact HO5.out
          case measure => simp [intOf]; omega
      · obtain ⟨hz, hc'⟩ := hR.2 hs
        subst hc'
        replace u2 := u2.trans hz
        rw [hz] at hs
        clear hR hz
        go_wp2_with fail
        go_region_held3 (fun w' => w'.cell? ⟨g, k, none⟩ = some (.int .i64 X)) (simp [go_sem, *])
          (first | (go_at_call 159; (with_reducible refine Calls.mono (HD2k _ (HB.out.below (show Below w.heap.size w _ by (repeat (first | with_reducible exact Below.refl _ _ | with_reducible assumption | with_reducible refine Below.alloc ?_ (by first | (simp; done) | (simp; omega) | omega) _ | with_reducible refine Below.setCell ?_ (by first | (simp; done) | (simp; omega) | omega) _ | with_reducible refine Below.drew ?_ | with_reducible refine below_drewN ?_ _))))).out ?_); rintro e w1 ⟨rfl, rfl⟩) | fail)
        all_goals
          go_wp2_with (first
            | (at_builtin; go_loud (refine wpList_append_own_at _ rfl _ _ 84 rfl w.heap.size 3 i0 _ 1 8 undInts hi0 hz0 hz1 hz2 rfl (by decide) u5 _ _ rfl ((HO.out.alloc _).drew) ⟨wr.heap.size, 0, none⟩ 1 1 [.int .i64 Z] rfl rfl (by simpa using news1 wr _ _) (by simp [Value.oneCell']) (by unfold maxLen; omega) (by omega) (by simp; omega) ?_; intro v' w5 hown' hgrow hnil hloc; have HO5 := Lib.hid hown'; have HG5 := Lib.hid hgrow; clear hown' hgrow hnil hloc))
            | fail)
          go_roundw
          case rel =>
            have hB5 : Below w.heap.size wr w5 := by
              have hs := hb.size
              first
                | exact ((Below.refl w.heap.size wr).alloc hs _).grown HG5.out (by simp; omega) (fun k h => (HO.out.lt k h).1)
                | exact (((Below.refl w.heap.size wr).alloc hs _).drew).grown HG5.out (by simp; omega) (fun k h => (HO.out.lt k h).1)
                | exact (((Below.refl w.heap.size wr).drew).alloc hs _).grown HG5.out (by simp; omega) (fun k h => (HO.out.lt k h).1)
                | exact ((((Below.refl w.heap.size wr).drew).alloc hs _).drew).grown HG5.out (by simp; omega) (fun k h => (HO.out.lt k h).1)
            refine ⟨k + 1, by omega, by rw [HCn.out], by go_num, hb.trans hB5, ?_⟩
            show w5.ownsRow _ _ _ _ _ _
            rw [HK.out]
            exact HO5.out
          case measure => simp [intOf]; omega
    · have q1 : ¬ (k : Int) < (n : Int) := by omega
      obtain rfl : k = n := by omega
      obtain ⟨e5, D5, G5⟩ := own_dr HO.out
      clear HO hcond hk
      generalize sA u5 = A5 at *
      generalize sC u5 = C5 at *
      subst e5
      have HD5 := Lib.hid D5
      have HG5 := Lib.hid G5
      clear D5 G5
      go_wp2_with (first
        | (go_at_call 158; (with_reducible refine Calls.mono (HT _ A5 C5 HD5.out).out ?_); rintro e w1 ⟨rfl, hb1⟩; have HD6 := Lib.hid (HD5.out.below hb1); have B1 := Lib.hid (thenD hb hb1); clear hb1)
        | fail)
      go_ret
      exact ⟨_, _, rfl, ⟨HD6.out.less HL.out, HG5.out⟩, B1.out⟩
end Go.Proofs.YtnfoagcpgegldaaGreat
