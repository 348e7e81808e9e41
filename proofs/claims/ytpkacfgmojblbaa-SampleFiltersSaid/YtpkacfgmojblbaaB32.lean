/- The statement SampleFiltersSaid: whatever the filter, the samples and the number, the law SampleFilters returns true, and its arguments read afterwards as before. -/
import Derived.Test.YtpkacfgmojblbaaB20
import Derived.Test.YtpkacfgmojblbaaB29
import Derived.Test.YtpkacfgmojblbaaB31
namespace Go.Proofs.Ytpkacfgmojblbaa
open Go.ChangeShapes Go.WideShapes Go.ChangeAt Go.RowKit Go.Joins Go.Deep
theorem cellsFil : Try.prog.cellsOf 82 = 2 := by kernel_rfl
set_option maxRecDepth 100000 in
theorem open_filter {H : Type} {enc : TypeId × Value → H} {w : World} {base : Nat} {sp : Nat → Bool} {held : Bool} {r : Reach} {b0 : Nat} {v : Value} {d : DataW H} {p : List MemPlace} (hv : Value.okWide Try.prog w r b0 82 v) (h : DataW.Trod enc Try.prog w base sp held 82 v d p) :
    ∃ (A : Option Addr) (n c : Nat) (xs : Nat → Int) (dn : Int), v = .agg #[.slice A n c, .int .i64 dn] ∧ n ≤ 9223372036854775807 ∧ IS w (.slice A n c) n xs := by
  obtain ⟨c0, c1, y0, y1, m, rfl, _, _, hy0, hy1⟩ := open_agg2 Try.underlying82 (by kernel_rfl) cellsFil hv h
  obtain ⟨dn, e1, _, _⟩ := DataW.trod_int Try.underlying3 hy1
  simp at e1
  subst e1
  rcases open_ints Try.underlying38 Try.underlying3 (by kernel_rfl) hy0 with ⟨hcs, _⟩ | ⟨x, l, c', zs, hcs, _, hl, hm, hz, _, hcell, hwz⟩
  · simp at hcs
    subst hcs
    exact ⟨none, 0, 0, fun _ => 0, dn, rfl, by omega, none, 0, rfl, fun h => absurd h (Nat.lt_irrefl 0), fun _ => ⟨rfl, rfl⟩, Nat.le_refl _⟩
  · simp at hcs
    subst hcs
    have hzl : l ≤ zs.length := by
      rw [hz]
      split <;> omega
    refine ⟨some x, l, c', fun i => zs.getD i 0, dn, rfl, (by unfold maxLen at hm; omega), some x, c', rfl, fun h0 => ?_, fun h => (by cases h), hl⟩
    obtain ⟨b, off, rfl, hc⟩ := ints_at hcell (by omega)
    exact ⟨b, off, rfl, fun i hi => hc i (by omega)⟩
end Go.Proofs.Ytpkacfgmojblbaa
namespace Go.Proofs.Ytpkacfgmojblbaa
open Go.ChangeShapes Go.WideShapes Go.ChangeAt Go.RowKit
theorem sampleFilters_any (A B : Option Addr) (L cL n c : Nat) (xs : Nat → Int) (dn by' : Int) (g : Nat → Int × Int) (w : World) (hI : IS w (.slice A L cL) L xs) (hG : GS w (.slice B n c) n g) : Calls Try.prog 9 #[.agg #[.slice A L cL, .int .i64 dn], .slice B n c, .int .i64 by'] w fun e w' => e = .returned (.bool true) ∧ Below w.heap.size w w' := by
  cases hs : shr n
  · exact sf_many A B L cL n c dn by' w hs
  · by_cases hL : 10 < L
    · exact sf_long A B L cL n c dn by' w hs hL
    · by_cases hF : flE L xs dn = 0
      · by_cases hD : smE n g = 0
        · cases hw : wi by' 1 400
          · exact sf_b A B L cL n c xs dn by' g w hs (by omega) hF hD hw hI hG
          · exact sf_ok A B L cL n c xs dn by' g w hs (by omega) hF hD hw hI hG
        · exact sf_d A B L cL n c xs dn by' g _ hD w hs (by omega) hF rfl hI hG
      · exact sf_f A B L cL n c xs dn by' g _ hF w hs (by omega) rfl hI hG
set_option maxRecDepth 100000 in
theorem sampleFilters_lifted (os : Os) (started : os.Started) (H : Type) (enc : TypeId × Value → H) :
    ReturnsInHanded {} Try.checked os 9 .any (Rows.sampleFiltersSpec.pre6 enc Try.prog Try.f9 Rows.sampleFiltersRow.domain false) (Rows.sampleFiltersSpec.post enc Try.prog Try.f9 false true false false) := by
  refine returnsInHanded_of_change (C := Try.checked) own started (by kernel_rfl) Try.func9
    (ChangeSpec.witness6 (enc := enc) (C := Try.checked) false ⟨#[], #[.agg #[.slice none 0 0, .int .i64 0], .slice none 0 0, .int .i64 0], []⟩ 8 (by kernel_rfl) (by kernel_rfl) (by kernel_rfl) (by kernel_rfl)) ?_
  intro W base args ds gs before hval0 hW hcnd _
  have hval : ∀ (j : Nat) t v, Try.f9.params[j]? = some t → args[j]? = some v → Value.okWide Try.prog W .any base t v := hval0
  have hW' := hW
  obtain ⟨p, q, hA0, hV, rfl, hfz, hnd⟩ := hW
  have hA : DataW.TrodAll enc Try.prog W 0 (fun _ => true) true Try.f9.params.toList args.toList ds p := hA0
  rw [Try.params9] at hA hval
  obtain ⟨v0, vs0, d0, ds0, p0, q0, hargs, rfl, rfl, h0, r0⟩ := trodAll_cons hA
  obtain ⟨v1, vs1, d1, ds1, p1, q1, rfl, rfl, rfl, h1, r1⟩ := trodAll_cons r0
  obtain ⟨v2, vs2, d2, ds2, p2, q2, rfl, rfl, rfl, h2, r2⟩ := trodAll_cons r1
  obtain ⟨rfl, rfl, rfl⟩ := trodAll_nil r2
  obtain rfl : args = #[v0, v1, v2] := by cases args; simp_all
  obtain ⟨rfl, rfl⟩ := trodVars_none hV
  have k0 := h0
  have k1 := h1
  have k2 := h2
  have lt0 : ∀ x ∈ p0, x.block < W.heap.size := by obtain ⟨m, hm⟩ := k0; exact DataW.trod_lt m _ _ _ hm
  have lt1 : ∀ x ∈ p1, x.block < W.heap.size := by obtain ⟨m, hm⟩ := k1; exact DataW.trod_lt m _ _ _ hm
  have lt2 : ∀ x ∈ p2, x.block < W.heap.size := by obtain ⟨m, hm⟩ := k2; exact DataW.trod_lt m _ _ _ hm
  obtain ⟨A0, n0, c0, xs0, dn0, rfl, hn0, hI0⟩ := open_filter (hval 0 82 v0 rfl rfl) h0
  obtain ⟨A1, n1, c1, g1, rfl, hn1, hG1, hc1⟩ := open_gausses (hval 1 42 v1 rfl rfl) h1
  obtain ⟨x2, rfl⟩ := okWide_int Try.underlying3 (hval 2 3 v2 rfl rfl)
  clear hA0 hval0
  refine (sampleFilters_any A0 A1 n0 c0 n1 c1 xs0 dn0 x2 g1 W hI0 hG1).mono fun e W' ⟨he, bel⟩ => ?_
  subst he
  exact ⟨_, rfl, _, _, _, [], _, [], hW', trodAll_mk1 (shut_bool Try.underlying4 _), (trodAll_cons_mk (Below.trod laidOut (by kernel_rfl) (of_decide_eq_true (by kernel_rfl)) k0 bel lt0) (trodAll_cons_mk (Below.trod laidOut (by kernel_rfl) (of_decide_eq_true (by kernel_rfl)) k1 bel lt1) (trodAll_cons_mk (Below.trod laidOut (by kernel_rfl) (of_decide_eq_true (by kernel_rfl)) k2 bel lt2) trodAll_mk0))), rfl, bel.frame _, fun h => by cases h⟩
theorem sampleFilters_over : Rows.sampleFiltersRow.holds Try.pinned (OpenSpec.ofChange Rows.sampleFiltersSpec) :=
  OpenClaim.holds_of_wide 9 Try.f9 rfl rfl rfl rfl rfl rfl rfl ⟨by kernel_rfl, by kernel_rfl, by kernel_rfl, by kernel_rfl, by kernel_rfl⟩ rfl rfl rfl rfl rfl (by kernel_rfl) Try.func9 (by kernel_rfl)
    (of_decide_eq_true (by kernel_rfl)) (by unfold Func.isWrapper; first | (rw [if_pos (by decide +kernel)]; kernel_rfl) | (rw [if_neg (by decide +kernel)]; exact ⟨rfl, rfl⟩))
    (fun os started H enc _ => sampleFilters_lifted os started H enc)
/-- THE STATEMENT. -/
theorem sampleFilters_holds : Rows.SampleFiltersSaid := sampleFilters_over
end Go.Proofs.Ytpkacfgmojblbaa
