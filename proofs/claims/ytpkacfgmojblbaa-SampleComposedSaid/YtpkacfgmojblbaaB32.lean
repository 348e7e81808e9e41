/- Helpers: filters as data. No condition but the hypotheses that each theorem names. -/
import Derived.Test.YtpkacfgmojblbaaB20
import Derived.Test.YtpkacfgmojblbaaB29
namespace Go.Proofs.Ytpkacfgmojblbaa
open Go.ChangeShapes Go.WideShapes Go.ChangeAt Go.RowKit Go.Joins Go.Deep
theorem cellsFil : Try.prog.cellsOf 82 = 2 := by kernel_rfl
set_option maxRecDepth 100000 in
theorem open_filter {H : Type} {enc : TypeId × Value → H} {w : World} {base : Nat} {sp : Nat → Bool} {held : Bool} {r : Reach} {b0 : Nat} {v : Value} {d : DataW H} {p : List MemPlace} (hv : Value.okWide Try.prog w r b0 82 v) (h : DataW.Trod enc Try.prog w base sp held 82 v d p) :
    ∃ (A : Option Addr) (n c : Nat) (xs : Nat → Int) (dn : Int), v = .agg #[.slice A n c, .int .i64 dn] ∧ n ≤ 9223372036854775807 ∧ IS w (.slice A n c) n xs := by
  obtain ⟨c0, c1, y0, y1, m, rfl, _, _, hy0, hy1⟩ := open_agg2 Try.underlying82 (by kernel_rfl) cellsFil hv h
  obtain ⟨dn, e1, _, _⟩ := DataW.trod_int Try.underlying3 hy1
  simp at e1
  subst e1
  rcases open_ints Try.underlying38 Try.underlying3 (by kernel_rfl) hy0 with ⟨hcs, _⟩ | ⟨x, l, c', zs, hcs, _, hl, hm, hz, _, hcell, hwz⟩
  · simp at hcs
    subst hcs
    exact ⟨none, 0, 0, fun _ => 0, dn, rfl, by omega, none, 0, rfl, fun h => absurd h (Nat.lt_irrefl 0), fun _ => ⟨rfl, rfl⟩, Nat.le_refl _⟩
  · simp at hcs
    subst hcs
    have hzl : l ≤ zs.length := by
      rw [hz]
      split <;> omega
    refine ⟨some x, l, c', fun i => zs.getD i 0, dn, rfl, (by unfold maxLen at hm; omega), some x, c', rfl, fun h0 => ?_, fun h => (by cases h), hl⟩
    obtain ⟨b, off, rfl, hc⟩ := ints_at hcell (by omega)
    exact ⟨b, off, rfl, fun i hi => hc i (by omega)⟩
end Go.Proofs.Ytpkacfgmojblbaa
