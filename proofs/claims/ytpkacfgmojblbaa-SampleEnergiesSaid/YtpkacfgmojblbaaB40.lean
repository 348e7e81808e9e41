/- Helpers: mathematics of four samples and their bins. No condition but the hypotheses that each theorem names. -/
import Derived.Test.YtpkacfgmojblbaaB37
import Derived.Test.YtpkacfgmojblbaaB23
namespace Go.Proofs.Ytpkacfgmojblbaa
open Go.RowKit
/-- the bins of four samples -/
def sB (h : Nat → Int × Int) (k : Nat) : Int × Int := bnS (-(k : Int)) h 4
theorem flt_sB (h : Nat → Int × Int) : flt (sB h) = bnF h 4 := rfl
theorem b4_of {m : Int} {g : Nat → Int × Int} (h : ∀ i, i < 4 → (-m ≤ (g i).1 ∧ (g i).1 ≤ m) ∧ -m ≤ (g i).2 ∧ (g i).2 ≤ m) : b4E m g = 0 := by
  have e : ∀ i, i < 4 → ptE m (g i) = 0 := fun i hi => pt_bd (h i hi)
  unfold b4E
  simp only [ferr]
  rw [if_pos (e 0 (by omega)), if_pos (e 1 (by omega)), if_pos (e 2 (by omega)), if_pos (e 3 (by omega))]
theorem sB_bd {h : Nat → Int × Int} (hh : ∀ i, i < 4 → (-2000 ≤ (h i).1 ∧ (h i).1 ≤ 2000) ∧ -2000 ≤ (h i).2 ∧ (h i).2 ≤ 2000) (k : Nat) : (-8000 ≤ (sB h k).1 ∧ (sB h k).1 ≤ 8000) ∧ -8000 ≤ (sB h k).2 ∧ (sB h k).2 ≤ 8000 := by
  have := bn_bd (s := -(k : Int)) (M := 2000) (by omega) hh 4 (Nat.le_refl _)
  unfold sB
  omega
theorem sB_back (h : Nat → Int × Int) (k : Nat) (hk : k < 4) : (bnS k (sB h) 4).1 = 4 * (h k).1 ∧ (bnS k (sB h) 4).2 = 4 * (h k).2 := by
  rcases (by omega : k = 0 ∨ k = 1 ∨ k = 2 ∨ k = 3) with rfl | rfl | rfl | rfl <;>
    simp [bnS, sB, rtR, rtI, qRe, qIm] <;> constructor <;> omega
theorem sB_rsK (h : Nat → Int × Int) (k : Nat) (hk : k < 4) : rsK (sB h) k := by
  obtain ⟨e1, e2⟩ := sB_back h k hk
  unfold rsK
  rw [e1, e2]
  exact ⟨Int.mul_tmod_right _ _, Int.mul_tmod_right _ _⟩
theorem sB_rsF (h : Nat → Int × Int) (k : Nat) (hk : k < 4) : rsF (sB h) k = h k := by
  obtain ⟨e1, e2⟩ := sB_back h k hk
  unfold rsF
  rw [e1, e2, Int.mul_tdiv_cancel_left _ (by decide), Int.mul_tdiv_cancel_left _ (by decide)]
theorem sB_arr (h : Nat → Int × Int) : arr (flt (rsF (sB h))) = arr (flt h) := by
  have e0 := sB_rsF h 0 (by omega)
  have e1 := sB_rsF h 1 (by omega)
  have e2 := sB_rsF h 2 (by omega)
  have e3 := sB_rsF h 3 (by omega)
  unfold arr
  rw [show flt (rsF (sB h)) 0 = (rsF (sB h) 0).1 from rfl, show flt (rsF (sB h)) 1 = (rsF (sB h) 0).2 from rfl, show flt (rsF (sB h)) 2 = (rsF (sB h) 1).1 from rfl, show flt (rsF (sB h)) 3 = (rsF (sB h) 1).2 from rfl, show flt (rsF (sB h)) 4 = (rsF (sB h) 2).1 from rfl, show flt (rsF (sB h)) 5 = (rsF (sB h) 2).2 from rfl, show flt (rsF (sB h)) 6 = (rsF (sB h) 3).1 from rfl, show flt (rsF (sB h)) 7 = (rsF (sB h) 3).2 from rfl, e0, e1, e2, e3]
  rfl
theorem sB_nrm (h : Nat → Int × Int) : nrm (sB h 0) + nrm (sB h 1) + nrm (sB h 2) + nrm (sB h 3) = 4 * enS h 4 := bins4 h
theorem trn_q (q : Int) (i : Nat) : trn 0 (q * 1024) 0 i = (i * q) % 4 := by
  unfold trn phs
  rw [Int.mul_zero, Int.add_zero, Int.zero_add, ← Int.mul_assoc]
  generalize (i : Int) * q = t
  omega
theorem mx_bin (q : Int) (g : Nat → Int × Int) : ∀ n, bnS 0 (mxS (-1) 0 (q * 1024) 0 g) n = bnS (-q) g n
  | 0 => rfl
  | n + 1 => by
    rw [bn0_s, mx_bin q g n]
    have e : mxS (-1) 0 (q * 1024) 0 g n = rt (-q * n) (g n) := by
      unfold mxS
      rw [trn_q]
      refine rt_mod ?_ _
      have e2 : -q * (n : Int) = -((n : Int) * q) := by rw [Int.neg_mul, Int.mul_comm]
      rw [e2]
      generalize (n : Int) * q = t
      omega
    rw [e]
    rfl
end Go.Proofs.Ytpkacfgmojblbaa
