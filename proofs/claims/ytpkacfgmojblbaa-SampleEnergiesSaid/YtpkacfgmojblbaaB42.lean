/- The statement SampleEnergiesSaid: whatever the four samples, the samples and the quarter, the law SampleEnergies returns true, and its arguments read afterwards as before. -/
import Derived.Test.YtpkacfgmojblbaaB41
import Derived.Test.YtpkacfgmojblbaaB39
namespace Go.Proofs.Ytpkacfgmojblbaa
open Go.ChangeShapes Go.WideShapes Go.ChangeAt Go.RowKit
theorem sampleEnergies_any (h : Nat → Int × Int) (A : Option Addr) (n c : Nat) (g : Nat → Int × Int) (q : Int) (w : World) (hG : GS w (.slice A n c) n g) : Calls Try.prog 13 #[.agg (arr (flt h)), .slice A n c, .int .i64 q] w fun e w' => e = .returned (.bool true) ∧ Below w.heap.size w w' := by
  have hA : GA w A n g := by obtain ⟨A', c', e, h, _⟩ := hG; cases e; exact h
  by_cases h60 : 60 < n
  · exact se_c h A n c g q w h60
  · by_cases hF : smE 4 h = 0
    · by_cases hD : smE n g = 0
      · cases hw : wi q 0 3
        · exact se_q h A n c g q w (by omega) hF hD hw hA
        · exact se_m h A n c g q w (by omega) hF hD hw hG
      · exact se_d h A n c g q _ hD w (by omega) hF rfl hA
    · exact se_f h A n c g q _ hF w (by omega) rfl
set_option maxRecDepth 100000 in
theorem sampleEnergies_lifted (os : Os) (started : os.Started) (H : Type) (enc : TypeId × Value → H) :
    ReturnsInHanded {} Try.checked os 13 .any (Rows.sampleEnergiesSpec.pre6 enc Try.prog Try.f13 Rows.sampleEnergiesRow.domain false) (Rows.sampleEnergiesSpec.post enc Try.prog Try.f13 false true false false) := by
  refine returnsInHanded_of_change (C := Try.checked) own started (by kernel_rfl) Try.func13
    (ChangeSpec.witness6 (enc := enc) (C := Try.checked) false ⟨#[], #[.agg #[.int .i64 0, .int .i64 0, .int .i64 0, .int .i64 0, .int .i64 0, .int .i64 0, .int .i64 0, .int .i64 0], .slice none 0 0, .int .i64 0], []⟩ 8 (by kernel_rfl) (by kernel_rfl) (by kernel_rfl) (by kernel_rfl)) ?_
  intro W base args ds gs before hval0 hW hcnd _
  have hval : ∀ (j : Nat) t v, Try.f13.params[j]? = some t → args[j]? = some v → Value.okWide Try.prog W .any base t v := hval0
  have hW' := hW
  obtain ⟨p, q, hA0, hV, rfl, hfz, hnd⟩ := hW
  have hA : DataW.TrodAll enc Try.prog W 0 (fun _ => true) true Try.f13.params.toList args.toList ds p := hA0
  rw [Try.params13] at hA hval
  obtain ⟨v0, vs0, d0, ds0, p0, q0, hargs, rfl, rfl, h0, r0⟩ := trodAll_cons hA
  obtain ⟨v1, vs1, d1, ds1, p1, q1, rfl, rfl, rfl, h1, r1⟩ := trodAll_cons r0
  obtain ⟨v2, vs2, d2, ds2, p2, q2, rfl, rfl, rfl, h2, r2⟩ := trodAll_cons r1
  obtain ⟨rfl, rfl, rfl⟩ := trodAll_nil r2
  obtain rfl : args = #[v0, v1, v2] := by cases args; simp_all
  obtain ⟨rfl, rfl⟩ := trodVars_none hV
  have k0 := h0
  have k1 := h1
  have k2 := h2
  have lt0 : ∀ x ∈ p0, x.block < W.heap.size := by obtain ⟨m, hm⟩ := k0; exact DataW.trod_lt m _ _ _ hm
  have lt1 : ∀ x ∈ p1, x.block < W.heap.size := by obtain ⟨m, hm⟩ := k1; exact DataW.trod_lt m _ _ _ hm
  have lt2 : ∀ x ∈ p2, x.block < W.heap.size := by obtain ⟨m, hm⟩ := k2; exact DataW.trod_lt m _ _ _ hm
  obtain ⟨g0, rfl⟩ := open_four (hval 0 102 v0 rfl rfl) h0
  obtain ⟨A1, n1, c1, g1, rfl, hn1, hG1, hc1⟩ := open_gausses (hval 1 42 v1 rfl rfl) h1
  obtain ⟨x2, rfl⟩ := okWide_int Try.underlying3 (hval 2 3 v2 rfl rfl)
  clear hA0 hval0
  refine (sampleEnergies_any g0 A1 n1 c1 g1 x2 W hG1).mono fun e W' ⟨he, bel⟩ => ?_
  subst he
  exact ⟨_, rfl, _, _, _, [], _, [], hW', trodAll_mk1 (shut_bool Try.underlying4 _), (trodAll_cons_mk (Below.trod laidOut (by kernel_rfl) (of_decide_eq_true (by kernel_rfl)) k0 bel lt0) (trodAll_cons_mk (Below.trod laidOut (by kernel_rfl) (of_decide_eq_true (by kernel_rfl)) k1 bel lt1) (trodAll_cons_mk (Below.trod laidOut (by kernel_rfl) (of_decide_eq_true (by kernel_rfl)) k2 bel lt2) trodAll_mk0))), rfl, bel.frame _, fun h => by cases h⟩
theorem sampleEnergies_over : Rows.sampleEnergiesRow.holds Try.pinned (OpenSpec.ofChange Rows.sampleEnergiesSpec) :=
  OpenClaim.holds_of_wide 13 Try.f13 rfl rfl rfl rfl rfl rfl rfl ⟨by kernel_rfl, by kernel_rfl, by kernel_rfl, by kernel_rfl, by kernel_rfl⟩ rfl rfl rfl rfl rfl (by kernel_rfl) Try.func13 (by kernel_rfl)
    (of_decide_eq_true (by kernel_rfl)) (by unfold Func.isWrapper; first | (rw [if_pos (by decide +kernel)]; kernel_rfl) | (rw [if_neg (by decide +kernel)]; exact ⟨rfl, rfl⟩))
    (fun os started H enc _ => sampleEnergies_lifted os started H enc)
/-- THE STATEMENT. -/
theorem sampleEnergies_holds : Rows.SampleEnergiesSaid := sampleEnergies_over
end Go.Proofs.Ytpkacfgmojblbaa
