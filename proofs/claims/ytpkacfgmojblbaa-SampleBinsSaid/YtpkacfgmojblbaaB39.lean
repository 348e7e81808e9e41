/- The statement SampleBinsSaid: whatever the samples, the quarter and the bins, the law SampleBins returns true, and its arguments read afterwards as before. -/
import Derived.Test.YtpkacfgmojblbaaB38
import Derived.Test.YtpkacfgmojblbaaB20
namespace Go.Proofs.Ytpkacfgmojblbaa
open Go.ChangeShapes Go.WideShapes Go.ChangeAt Go.RowKit
set_option maxRecDepth 100000 in
theorem okWide_arr4 {w : World} {r : Reach} {b0 : Nat} {v : Value} (h : Value.okWide Try.prog w r b0 102 v) : ∃ cs, v = .agg cs ∧ cs.size = Try.prog.cellsOf 102 := by
  simp only [Value.okWide, Try.underlying102] at h
  obtain ⟨cs, h1, h2, _⟩ := h
  exact ⟨cs, h1, h2⟩
theorem cellsA4 : Try.prog.cellsOf 102 = 8 := by kernel_rfl
set_option maxRecDepth 100000 in
theorem open_four {H : Type} {enc : TypeId × Value → H} {w : World} {base : Nat} {sp : Nat → Bool} {held : Bool} {r : Reach} {b0 : Nat} {v : Value} {d : DataW H} {p : List MemPlace} (hv : Value.okWide Try.prog w r b0 102 v) (h : DataW.Trod enc Try.prog w base sp held 102 v d p) :
    ∃ h : Nat → Int × Int, v = .agg (arr (flt h)) := by
  obtain ⟨cs, rfl, hsz⟩ := okWide_arr4 hv
  rw [cellsA4] at hsz
  obtain ⟨fuel, hf⟩ := h
  obtain ⟨zs, m, _, _, _, hzl, hz⟩ := DataW.trod_array Try.underlying102 hf
  have key : ∀ i, i < 4 → ∃ q : Int × Int, cs.toList[i * 2]? = some (.int .i64 q.1) ∧ cs.toList[i * 2 + 1]? = some (.int .i64 q.2) := by
    intro i hi
    have hzi := hz i hi
    rw [List.getElem?_eq_getElem (by rw [hzl]; exact hi)] at hzi
    rw [cellsGauss] at hzi
    obtain ⟨x, y, hx0, hx1⟩ := trod_gauss hzi
    rw [take_in (by omega)] at hx0 hx1
    exact ⟨(x, y), by simpa [Value.cells] using hx0, by simpa [Value.cells] using hx1⟩
  obtain ⟨q, hq⟩ := chooseLt key
  refine ⟨q, congrArg Value.agg (Array.ext_getElem? fun j => ?_)⟩
  by_cases hj : j < 8
  · rcases (by omega : j = 0 ∨ j = 1 ∨ j = 2 ∨ j = 3 ∨ j = 4 ∨ j = 5 ∨ j = 6 ∨ j = 7) with rfl | rfl | rfl | rfl | rfl | rfl | rfl | rfl
    · rw [← Array.getElem?_toList, (hq 0 (by omega)).1]; rfl
    · rw [← Array.getElem?_toList, (hq 0 (by omega)).2]; rfl
    · rw [← Array.getElem?_toList, (hq 1 (by omega)).1]; rfl
    · rw [← Array.getElem?_toList, (hq 1 (by omega)).2]; rfl
    · rw [← Array.getElem?_toList, (hq 2 (by omega)).1]; rfl
    · rw [← Array.getElem?_toList, (hq 2 (by omega)).2]; rfl
    · rw [← Array.getElem?_toList, (hq 3 (by omega)).1]; rfl
    · rw [← Array.getElem?_toList, (hq 3 (by omega)).2]; rfl
  · rw [Array.getElem?_eq_none (by omega), Array.getElem?_eq_none (by rw [arr_size]; omega)]
set_option maxRecDepth 100000 in
theorem sampleBins_lifted (os : Os) (started : os.Started) (H : Type) (enc : TypeId × Value → H) :
    ReturnsInHanded {} Try.checked os 12 .any (Rows.sampleBinsSpec.pre6 enc Try.prog Try.f12 Rows.sampleBinsRow.domain false) (Rows.sampleBinsSpec.post enc Try.prog Try.f12 false true false false) := by
  refine returnsInHanded_of_change (C := Try.checked) own started (by kernel_rfl) Try.func12
    (ChangeSpec.witness6 (enc := enc) (C := Try.checked) false ⟨#[], #[.slice none 0 0, .int .i64 0, .agg #[.int .i64 0, .int .i64 0, .int .i64 0, .int .i64 0, .int .i64 0, .int .i64 0, .int .i64 0, .int .i64 0]], []⟩ 8 (by kernel_rfl) (by kernel_rfl) (by kernel_rfl) (by kernel_rfl)) ?_
  intro W base args ds gs before hval0 hW hcnd _
  have hval : ∀ (j : Nat) t v, Try.f12.params[j]? = some t → args[j]? = some v → Value.okWide Try.prog W .any base t v := hval0
  have hW' := hW
  obtain ⟨p, q, hA0, hV, rfl, hfz, hnd⟩ := hW
  have hA : DataW.TrodAll enc Try.prog W 0 (fun _ => true) true Try.f12.params.toList args.toList ds p := hA0
  rw [Try.params12] at hA hval
  obtain ⟨v0, vs0, d0, ds0, p0, q0, hargs, rfl, rfl, h0, r0⟩ := trodAll_cons hA
  obtain ⟨v1, vs1, d1, ds1, p1, q1, rfl, rfl, rfl, h1, r1⟩ := trodAll_cons r0
  obtain ⟨v2, vs2, d2, ds2, p2, q2, rfl, rfl, rfl, h2, r2⟩ := trodAll_cons r1
  obtain ⟨rfl, rfl, rfl⟩ := trodAll_nil r2
  obtain rfl : args = #[v0, v1, v2] := by cases args; simp_all
  obtain ⟨rfl, rfl⟩ := trodVars_none hV
  have k0 := h0
  have k1 := h1
  have k2 := h2
  have lt0 : ∀ x ∈ p0, x.block < W.heap.size := by obtain ⟨m, hm⟩ := k0; exact DataW.trod_lt m _ _ _ hm
  have lt1 : ∀ x ∈ p1, x.block < W.heap.size := by obtain ⟨m, hm⟩ := k1; exact DataW.trod_lt m _ _ _ hm
  have lt2 : ∀ x ∈ p2, x.block < W.heap.size := by obtain ⟨m, hm⟩ := k2; exact DataW.trod_lt m _ _ _ hm
  obtain ⟨A0, n0, c0, g0, rfl, hn0, hG0, hc0⟩ := open_gausses (hval 0 42 v0 rfl rfl) h0
  obtain ⟨x1, rfl⟩ := okWide_int Try.underlying3 (hval 1 3 v1 rfl rfl)
  obtain ⟨g2, rfl⟩ := open_four (hval 2 102 v2 rfl rfl) h2
  clear hA0 hval0
  refine (sampleBins_any A0 n0 c0 g0 x1 g2 W hG0).mono fun e W' ⟨he, bel⟩ => ?_
  subst he
  exact ⟨_, rfl, _, _, _, [], _, [], hW', trodAll_mk1 (shut_bool Try.underlying4 _), (trodAll_cons_mk (Below.trod laidOut (by kernel_rfl) (of_decide_eq_true (by kernel_rfl)) k0 bel lt0) (trodAll_cons_mk (Below.trod laidOut (by kernel_rfl) (of_decide_eq_true (by kernel_rfl)) k1 bel lt1) (trodAll_cons_mk (Below.trod laidOut (by kernel_rfl) (of_decide_eq_true (by kernel_rfl)) k2 bel lt2) trodAll_mk0))), rfl, bel.frame _, fun h => by cases h⟩
theorem sampleBins_over : Rows.sampleBinsRow.holds Try.pinned (OpenSpec.ofChange Rows.sampleBinsSpec) :=
  OpenClaim.holds_of_wide 12 Try.f12 rfl rfl rfl rfl rfl rfl rfl ⟨by kernel_rfl, by kernel_rfl, by kernel_rfl, by kernel_rfl, by kernel_rfl⟩ rfl rfl rfl rfl rfl (by kernel_rfl) Try.func12 (by kernel_rfl)
    (of_decide_eq_true (by kernel_rfl)) (by unfold Func.isWrapper; first | (rw [if_pos (by decide +kernel)]; kernel_rfl) | (rw [if_neg (by decide +kernel)]; exact ⟨rfl, rfl⟩))
    (fun os started H enc _ => sampleBins_lifted os started H enc)
/-- THE STATEMENT. -/
theorem sampleBins_holds : Rows.SampleBinsSaid := sampleBins_over
end Go.Proofs.Ytpkacfgmojblbaa
