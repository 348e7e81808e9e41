/- The statement SampleComposedSaid: whatever the filters and the quarter, the law SampleComposed returns true, and its arguments read afterwards as before. -/
import Derived.Test.YtpkacfgmojblbaaB46
import Derived.Test.YtpkacfgmojblbaaB32
namespace Go.Proofs.Ytpkacfgmojblbaa
open Go.ChangeShapes Go.WideShapes Go.ChangeAt Go.RowKit
theorem sampleComposed_any (A A2 : Option Addr) (L cA M cB : Nat) (xs ys : Nat → Int) (d1 d2 q : Int) (w : World) (hI : IS w (.slice A L cA) L xs) (hJ : IS w (.slice A2 M cB) M ys) : Calls Try.prog 10 #[.agg #[.slice A L cA, .int .i64 d1], .agg #[.slice A2 M cB, .int .i64 d2], .int .i64 q] w fun e w' => e = .returned (.bool true) ∧ Below w.heap.size w w' := by
  by_cases hL : 10 < L
  · exact sc_long1 A A2 L cA M cB d1 d2 q w hL
  by_cases hM : 10 < M
  · exact sc_long2 A A2 L cA M cB d1 d2 q w (by omega) hM
  by_cases hF : flE L xs d1 = 0
  · cases hw : wi q 0 3
    · by_cases hG : flE M ys d2 = 0
      · by_cases hW : flE (L + M - 1) (cvK xs ys M L) (d1 * d2) = 0
        · exact sc_qok A A2 L cA M cB xs ys d1 d2 q w (by omega) (by omega) hF (by unfold rgE; rw [hw]; rfl) hG hW hI hJ
        · exact sc_qbig A A2 L cA M cB xs ys d1 d2 q _ hW w (by omega) (by omega) hF (by unfold rgE; rw [hw]; rfl) hG rfl hI hJ
      · exact sc_qG A A2 L cA M cB xs ys d1 d2 q _ hG w (by omega) (by omega) hF (by unfold rgE; rw [hw]; rfl) rfl hI hJ
    · by_cases hG : flE M ys d2 = 0
      · by_cases hW : flE (L + M - 1) (cvK xs ys M L) (d1 * d2) = 0
        · exact sc_ook A A2 L cA M cB xs ys d1 d2 q w (by omega) (by omega) hF (by unfold rgE; rw [hw]; rfl) hG hW hI hJ
        · exact sc_obig A A2 L cA M cB xs ys d1 d2 q _ hW w (by omega) (by omega) hF (by unfold rgE; rw [hw]; rfl) hG rfl hI hJ
      · exact sc_oG A A2 L cA M cB xs ys d1 d2 q _ hG w (by omega) (by omega) hF (by unfold rgE; rw [hw]; rfl) rfl hI hJ
  · exact sc_f A A2 L cA M cB xs ys d1 d2 q _ hF w (by omega) (by omega) rfl hI hJ
set_option maxRecDepth 100000 in
theorem sampleComposed_lifted (os : Os) (started : os.Started) (H : Type) (enc : TypeId × Value → H) :
    ReturnsInHanded {} Try.checked os 10 .any (Rows.sampleComposedSpec.pre6 enc Try.prog Try.f10 Rows.sampleComposedRow.domain false) (Rows.sampleComposedSpec.post enc Try.prog Try.f10 false true false false) := by
  refine returnsInHanded_of_change (C := Try.checked) own started (by kernel_rfl) Try.func10
    (ChangeSpec.witness6 (enc := enc) (C := Try.checked) false ⟨#[], #[.agg #[.slice none 0 0, .int .i64 0], .agg #[.slice none 0 0, .int .i64 0], .int .i64 0], []⟩ 8 (by kernel_rfl) (by kernel_rfl) (by kernel_rfl) (by kernel_rfl)) ?_
  intro W base args ds gs before hval0 hW hcnd _
  have hval : ∀ (j : Nat) t v, Try.f10.params[j]? = some t → args[j]? = some v → Value.okWide Try.prog W .any base t v := hval0
  have hW' := hW
  obtain ⟨p, q, hA0, hV, rfl, hfz, hnd⟩ := hW
  have hA : DataW.TrodAll enc Try.prog W 0 (fun _ => true) true Try.f10.params.toList args.toList ds p := hA0
  rw [Try.params10] at hA hval
  obtain ⟨v0, vs0, d0, ds0, p0, q0, hargs, rfl, rfl, h0, r0⟩ := trodAll_cons hA
  obtain ⟨v1, vs1, d1, ds1, p1, q1, rfl, rfl, rfl, h1, r1⟩ := trodAll_cons r0
  obtain ⟨v2, vs2, d2, ds2, p2, q2, rfl, rfl, rfl, h2, r2⟩ := trodAll_cons r1
  obtain ⟨rfl, rfl, rfl⟩ := trodAll_nil r2
  obtain rfl : args = #[v0, v1, v2] := by cases args; simp_all
  obtain ⟨rfl, rfl⟩ := trodVars_none hV
  have k0 := h0
  have k1 := h1
  have k2 := h2
  have lt0 : ∀ x ∈ p0, x.block < W.heap.size := by obtain ⟨m, hm⟩ := k0; exact DataW.trod_lt m _ _ _ hm
  have lt1 : ∀ x ∈ p1, x.block < W.heap.size := by obtain ⟨m, hm⟩ := k1; exact DataW.trod_lt m _ _ _ hm
  have lt2 : ∀ x ∈ p2, x.block < W.heap.size := by obtain ⟨m, hm⟩ := k2; exact DataW.trod_lt m _ _ _ hm
  obtain ⟨A0, n0, c0, xs0, dn0, rfl, hn0, hI0⟩ := open_filter (hval 0 82 v0 rfl rfl) h0
  obtain ⟨A1, n1, c1, xs1, dn1, rfl, hn1, hI1⟩ := open_filter (hval 1 82 v1 rfl rfl) h1
  obtain ⟨x2, rfl⟩ := okWide_int Try.underlying3 (hval 2 3 v2 rfl rfl)
  clear hA0 hval0
  refine (sampleComposed_any A0 A1 n0 c0 n1 c1 xs0 xs1 dn0 dn1 x2 W hI0 hI1).mono fun e W' ⟨he, bel⟩ => ?_
  subst he
  exact ⟨_, rfl, _, _, _, [], _, [], hW', trodAll_mk1 (shut_bool Try.underlying4 _), (trodAll_cons_mk (Below.trod laidOut (by kernel_rfl) (of_decide_eq_true (by kernel_rfl)) k0 bel lt0) (trodAll_cons_mk (Below.trod laidOut (by kernel_rfl) (of_decide_eq_true (by kernel_rfl)) k1 bel lt1) (trodAll_cons_mk (Below.trod laidOut (by kernel_rfl) (of_decide_eq_true (by kernel_rfl)) k2 bel lt2) trodAll_mk0))), rfl, bel.frame _, fun h => by cases h⟩
theorem sampleComposed_over : Rows.sampleComposedRow.holds Try.pinned (OpenSpec.ofChange Rows.sampleComposedSpec) :=
  OpenClaim.holds_of_wide 10 Try.f10 rfl rfl rfl rfl rfl rfl rfl ⟨by kernel_rfl, by kernel_rfl, by kernel_rfl, by kernel_rfl, by kernel_rfl⟩ rfl rfl rfl rfl rfl (by kernel_rfl) Try.func10 (by kernel_rfl)
    (of_decide_eq_true (by kernel_rfl)) (by unfold Func.isWrapper; first | (rw [if_pos (by decide +kernel)]; kernel_rfl) | (rw [if_neg (by decide +kernel)]; exact ⟨rfl, rfl⟩))
    (fun os started H enc _ => sampleComposed_lifted os started H enc)
/-- THE STATEMENT. -/
theorem sampleComposed_holds : Rows.SampleComposedSaid := sampleComposed_over
end Go.Proofs.Ytpkacfgmojblbaa
