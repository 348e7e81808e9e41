/- The statement SampleMixesSaid: whatever the program and the samples, the law SampleMixes returns true, and its arguments read afterwards as before. -/
import Derived.Test.YtpkacfgmojblbaaB15
import Derived.Test.YtpkacfgmojblbaaB14
import Derived.Deep.Slices
import Derived.Test.YtpkacfgmojblbaaB19
namespace Go.Proofs.Ytpkacfgmojblbaa
open Go.ChangeShapes Go.WideShapes Go.ChangeAt Go.RowKit Go.Joins Go.Deep
theorem chooseLt {α : Type} [Inhabited α] {n : Nat} {P : Nat → α → Prop} (h : ∀ i, i < n → ∃ q, P i q) : ∃ f : Nat → α, ∀ i, i < n → P i (f i) := by
  refine ⟨fun i => if hi : i < n then Classical.choose (h i hi) else default, fun i hi => ?_⟩
  simp only [hi, dif_pos]
  exact Classical.choose_spec (h i hi)
set_option maxRecDepth 100000 in
theorem open_gausses {H : Type} {enc : TypeId × Value → H} {w : World} {base : Nat} {sp : Nat → Bool} {held : Bool} {r : Reach} {b0 : Nat} {v : Value} {d : DataW H} {p : List MemPlace} (hv : Value.okWide Try.prog w r b0 42 v) (h : DataW.Trod enc Try.prog w base sp held 42 v d p) :
    ∃ (A : Option Addr) (n c : Nat) (g : Nat → Int × Int), v = .slice A n c ∧ n ≤ 9223372036854775807 ∧ GS w (.slice A n c) n g ∧ n ≤ c := by
  obtain ⟨A, n, c, rfl⟩ := okWide_slice Try.underlying42 hv
  obtain ⟨fuel, hf⟩ := h
  rcases open_slice Try.underlying42 hf with ⟨hcs, _⟩ | ⟨a, len, cap, m', n', D, Pl, hcs, _, hl, hm, hmm, _, hx⟩
  · simp [Value.cells] at hcs
    obtain ⟨rfl, rfl, rfl⟩ := hcs
    exact ⟨none, 0, 0, fun _ => (0, 0), rfl, by omega, ⟨none, 0, rfl, fun h => absurd h (Nat.lt_irrefl 0), fun _ => ⟨rfl, rfl⟩⟩, Nat.le_refl _⟩
  · simp [Value.cells] at hcs
    obtain ⟨rfl, rfl, rfl⟩ := hcs
    rw [cellsGauss] at hx
    have hlm : n ≤ m' := by rw [hmm]; split <;> omega
    have hq : ∀ i, i < n → ∃ q : Int × Int, w.cell? (a.add (i * 2)) = some (.int .i64 q.1) ∧ w.cell? ((a.add (i * 2)).add 1) = some (.int .i64 q.2) := by
      intro i hi
      obtain ⟨cs', g1, g2⟩ := hx i (by omega)
      obtain ⟨_, hlen, hc⟩ := World.cells?_some g1
      match cs', hlen with
      | [v0, v1], _ =>
        obtain ⟨x, y, e0, e1⟩ := trod_gauss g2
        simp at e0 e1
        subst e0 e1
        have z0 := hc 0 (by omega)
        have z1 := hc 1 (by omega)
        refine ⟨(x, y), ?_, z1⟩
        simpa [Addr.add] using z0
    obtain ⟨k, hk⟩ := chooseLt hq
    refine ⟨some a, n, c, k, rfl, by unfold maxLen at hm; omega, ⟨some a, c, rfl, fun h0 => ?_, fun h => (by cases h)⟩, hl⟩
    obtain ⟨b, off, spot⟩ := a
    have hc := (hk 0 h0).1
    have hspot : spot = none := by simpa [Addr.add] using World.cell?_spot hc
    subst hspot
    refine ⟨b, off, rfl, fun i hi => ?_⟩
    obtain ⟨z0, z1⟩ := hk i hi
    rw [addr_addI] at z0 z1
    rw [addr_addI] at z1
    exact ⟨z0, z1⟩
end Go.Proofs.Ytpkacfgmojblbaa
namespace Go.Proofs.Ytpkacfgmojblbaa
open Go.ChangeShapes Go.WideShapes Go.ChangeAt Go.RowKit
theorem sampleMixes_any (ph inc ch : Int) (A : Option Addr) (n c : Nat) (g : Nat → Int × Int) (w : World) (hG : GS w (.slice A n c) n g) : Calls Try.prog 7 #[.agg #[.int .i64 ph, .int .i64 inc, .int .i64 ch], .slice A n c] w fun e w' => e = .returned (.bool true) ∧ Below w.heap.size w w' := by
  cases hs : shr n
  · exact sx_many ph inc ch A n c w hs
  · by_cases hD : smE n g = 0
    · by_cases hP : prgE ph inc ch = 0
      · exact sx_ok ph inc ch A n c g w hs hD hP hG
      · exact sx_p ph inc ch A n c g _ hP w hs hD rfl hG
    · by_cases hP : prgE ph inc ch = 0
      · exact sx_d ph inc ch A n c g _ hD w hs rfl hP hG
      · exact sx_dp ph inc ch A n c g _ hD _ hP w hs rfl rfl hG
set_option maxRecDepth 100000 in
theorem sampleMixes_lifted (os : Os) (started : os.Started) (H : Type) (enc : TypeId × Value → H) :
    ReturnsInHanded {} Try.checked os 7 .any (Rows.sampleMixesSpec.pre6 enc Try.prog Try.f7 Rows.sampleMixesRow.domain false) (Rows.sampleMixesSpec.post enc Try.prog Try.f7 false true false false) := by
  refine returnsInHanded_of_change (C := Try.checked) own started (by kernel_rfl) Try.func7
    (ChangeSpec.witness6 (enc := enc) (C := Try.checked) false ⟨#[], #[.agg #[.int .i64 0, .int .i64 0, .int .i64 0], .slice none 0 0], []⟩ 8 (by kernel_rfl) (by kernel_rfl) (by kernel_rfl) (by kernel_rfl)) ?_
  intro W base args ds gs before hval0 hW hcnd _
  have hval : ∀ (j : Nat) t v, Try.f7.params[j]? = some t → args[j]? = some v → Value.okWide Try.prog W .any base t v := hval0
  have hW' := hW
  obtain ⟨p, q, hA0, hV, rfl, hfz, hnd⟩ := hW
  have hA : DataW.TrodAll enc Try.prog W 0 (fun _ => true) true Try.f7.params.toList args.toList ds p := hA0
  rw [Try.params7] at hA hval
  obtain ⟨v0, vs0, d0, ds0, p0, q0, hargs, rfl, rfl, h0, r0⟩ := trodAll_cons hA
  obtain ⟨v1, vs1, d1, ds1, p1, q1, rfl, rfl, rfl, h1, r1⟩ := trodAll_cons r0
  obtain ⟨rfl, rfl, rfl⟩ := trodAll_nil r1
  obtain rfl : args = #[v0, v1] := by cases args; simp_all
  obtain ⟨rfl, rfl⟩ := trodVars_none hV
  have k0 := h0
  have k1 := h1
  have lt0 : ∀ x ∈ p0, x.block < W.heap.size := by obtain ⟨m, hm⟩ := k0; exact DataW.trod_lt m _ _ _ hm
  have lt1 : ∀ x ∈ p1, x.block < W.heap.size := by obtain ⟨m, hm⟩ := k1; exact DataW.trod_lt m _ _ _ hm
  obtain ⟨ph0, inc0, ch0, rfl⟩ := open_program (hval 0 59 v0 rfl rfl) h0
  obtain ⟨A1, n1, c1, g1, rfl, hn1, hG1, hc1⟩ := open_gausses (hval 1 42 v1 rfl rfl) h1
  clear hA0 hval0
  refine (sampleMixes_any ph0 inc0 ch0 A1 n1 c1 g1 W hG1).mono fun e W' ⟨he, bel⟩ => ?_
  subst he
  exact ⟨_, rfl, _, _, _, [], _, [], hW', trodAll_mk1 (shut_bool Try.underlying4 _), (trodAll_cons_mk (Below.trod laidOut (by kernel_rfl) (of_decide_eq_true (by kernel_rfl)) k0 bel lt0) (trodAll_cons_mk (Below.trod laidOut (by kernel_rfl) (of_decide_eq_true (by kernel_rfl)) k1 bel lt1) trodAll_mk0)), rfl, bel.frame _, fun h => by cases h⟩
theorem sampleMixes_over : Rows.sampleMixesRow.holds Try.pinned (OpenSpec.ofChange Rows.sampleMixesSpec) :=
  OpenClaim.holds_of_wide 7 Try.f7 rfl rfl rfl rfl rfl rfl rfl ⟨by kernel_rfl, by kernel_rfl, by kernel_rfl, by kernel_rfl, by kernel_rfl⟩ rfl rfl rfl rfl rfl (by kernel_rfl) Try.func7 (by kernel_rfl)
    (of_decide_eq_true (by kernel_rfl)) (by unfold Func.isWrapper; first | (rw [if_pos (by decide +kernel)]; kernel_rfl) | (rw [if_neg (by decide +kernel)]; exact ⟨rfl, rfl⟩))
    (fun os started H enc _ => sampleMixes_lifted os started H enc)
/-- THE STATEMENT. -/
theorem sampleMixes_holds : Rows.SampleMixesSaid := sampleMixes_over
end Go.Proofs.Ytpkacfgmojblbaa
