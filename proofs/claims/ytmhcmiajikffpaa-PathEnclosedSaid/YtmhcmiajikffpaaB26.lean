/- The statement PathEnclosedSaid: whatever the three tracks, the time and the greater doubt, the law PathEnclosed returns true, and its arguments read afterwards as before. -/
import Derived.Test.YtmhcmiajikffpaaB25
import Derived.ProofKit
import Derived.OpenShut
import Derived.ShutString
import Derived.ChangeOld
import Derived.Below
import Derived.Lib.SmallJoins
import Derived.Deep.Slices
namespace Go.Proofs.Ytmhcmiajikffpaa
open Go.ChangeShapes Go.WideShapes Go.ChangeAt Go.RowKit Go.Joins Go.Deep
theorem cells6 : Try.prog.cellsOf 25 = 6 := by kernel_rfl
theorem cellsSl : Try.prog.cellsOf 22 = 1 := by kernel_rfl
set_option maxRecDepth 100000 in
theorem open_trackCells {H : Type} {enc : TypeId × Value → H} {w : World} {base : Nat} {sp : Nat → Bool} {held : Bool} {fuel : Nat} {c0 c1 : Value} {x : DataW H × List MemPlace} (h : DataW.trod enc Try.prog w base sp held fuel 24 [c0, c1] = some x) :
    ∃ (A : Option Addr) (n c : Nat) (k : Nat → Knot) (db : Int), c0 = .slice A n c ∧ c1 = .int .i64 db ∧ n ≤ 9223372036854775807 ∧ (A = none → n = 0 ∧ c = 0) ∧ KA w A n k := by
  obtain ⟨xs, m, _, _, hl, hlen, hg⟩ := DataW.trod_struct Try.underlying24 h
  match xs, hlen with
  | [y0, y1], _ =>
    have hy0 := hg 0 _ rfl
    have hy1 := hg 1 _ rfl
    simp [cells1, cellsSl] at hy0 hy1
    obtain ⟨db, e1, _, _⟩ := DataW.trod_int Try.underlying3 hy1
    simp at e1
    subst e1
    rcases open_slice Try.underlying22 hy0 with ⟨hcs, _⟩ | ⟨a, len, cap, m', n', D, Pl, hcs, _, hl, hm, hmm, _, hx⟩
    · simp at hcs
      subst hcs
      exact ⟨none, 0, 0, fun _ => default, db, rfl, rfl, by omega, fun _ => ⟨rfl, rfl⟩, fun h => absurd h (Nat.lt_irrefl 0)⟩
    · simp at hcs
      subst hcs
      rw [cells4] at hx
      have hlm : len ≤ m' := by rw [hmm]; split <;> omega
      have hq : ∀ i, i < len → ∃ q : Knot, w.cell? (a.add (i * 4)) = some (.int .i64 q.t) ∧ w.cell? ((a.add (i * 4)).add 1) = some (.int .i64 q.x) ∧ w.cell? ((a.add (i * 4)).add 2) = some (.int .i64 q.y) ∧ w.cell? ((a.add (i * 4)).add 3) = some (.int .i64 q.z) := by
        intro i hi
        obtain ⟨cs', g1, g2⟩ := hx i (by omega)
        obtain ⟨_, hlen, hc⟩ := World.cells?_some g1
        match cs', hlen with
        | [v0, v1, v2, v3], _ =>
          obtain ⟨q, rfl, rfl, rfl, rfl⟩ := read_knot g2
          have z0 := hc 0 (by omega)
          have z1 := hc 1 (by omega)
          have z2 := hc 2 (by omega)
          have z3 := hc 3 (by omega)
          refine ⟨q, ?_, z1, z2, z3⟩
          simpa [Addr.add] using z0
      obtain ⟨k, hk⟩ := choose_lt hq
      refine ⟨some a, len, cap, k, db, rfl, rfl, by unfold maxLen at hm; omega, fun h => (by cases h), fun h0 => ?_⟩
      obtain ⟨b, off, spot⟩ := a
      have hc := (hk 0 h0).1
      have hspot : spot = none := by simpa [Addr.add] using World.cell?_spot hc
      subst hspot
      have hc2 : w.cell? ⟨b, off, none⟩ = some (.int .i64 (k 0).t) := by simpa [Addr.add] using hc
      refine ⟨b, off, rfl, lt_of hc2, fun i hi => ?_⟩
      obtain ⟨z0, z1, z2, z3⟩ := hk i hi
      rw [addr_add] at z0 z1 z2 z3
      rw [addr_add] at z1 z2 z3
      exact ⟨z0, z1, z2, z3⟩
set_option maxRecDepth 100000 in
theorem open_three {H : Type} {enc : TypeId × Value → H} {w : World} {base : Nat} {sp : Nat → Bool} {held : Bool} {r : Reach} {b0 : Nat} {v : Value} {d : DataW H} {p : List MemPlace} (hv : Value.okWide Try.prog w r b0 25 v) (h : DataW.Trod enc Try.prog w base sp held 25 v d p) :
    ∃ (A B C : Option Addr) (na nb nc ca cb cc : Nat) (ka kb kc : Nat → Knot) (da db dc : Int), v = .agg #[.slice A na ca, .int .i64 da, .slice B nb cb, .int .i64 db, .slice C nc cc, .int .i64 dc] ∧
      (na ≤ 9223372036854775807 ∧ nb ≤ 9223372036854775807 ∧ nc ≤ 9223372036854775807) ∧ ((A = none → na = 0 ∧ ca = 0) ∧ (B = none → nb = 0 ∧ cb = 0) ∧ (C = none → nc = 0 ∧ cc = 0)) ∧ KA w A na ka ∧ KA w B nb kb ∧ KA w C nc kc := by
  obtain ⟨cs, rfl, hsz⟩ : ∃ cs, v = .agg cs ∧ cs.size = Try.prog.cellsOf 25 := by
    simp only [Value.okWide, Try.underlying25] at hv
    obtain ⟨cs, h1, h2, _⟩ := hv
    exact ⟨cs, h1, h2⟩
  rw [cells6] at hsz
  obtain ⟨c0, c1, c2, c3, c4, c5, rfl⟩ : ∃ c0 c1 c2 c3 c4 c5, cs = #[c0, c1, c2, c3, c4, c5] := by
    obtain ⟨l⟩ := cs
    match l, hsz with
    | [c0, c1, c2, c3, c4, c5], _ => exact ⟨c0, c1, c2, c3, c4, c5, rfl⟩
  obtain ⟨fuel, hf⟩ := h
  obtain ⟨xs, m, _, _, hl, hlen, hg⟩ := DataW.trod_array Try.underlying25 hf
  match xs, hlen with
  | [y0, y1, y2], _ =>
    have h0 := hg 0 (by omega)
    have h1 := hg 1 (by omega)
    have h2 := hg 2 (by omega)
    simp [cells2, Value.cells] at h0 h1 h2
    obtain ⟨A, na, ca, ka, da, rfl, rfl, n1, n2, n3⟩ := open_trackCells h0
    obtain ⟨B, nb, cb, kb, db, rfl, rfl, m1, m2, m3⟩ := open_trackCells h1
    obtain ⟨C, nc, cc, kc, dc, rfl, rfl, o1, o2, o3⟩ := open_trackCells h2
    exact ⟨A, B, C, na, nb, nc, ca, cb, cc, ka, kb, kc, da, db, dc, rfl, ⟨n1, m1, o1⟩, ⟨n2, m2, o2⟩, n3, m3, o3⟩
set_option maxRecDepth 100000 in
theorem pathEnclosed_lifted (os : Os) (started : os.Started) (H : Type) (enc : TypeId × Value → H) :
    ReturnsInHanded {} Try.checked os 3 .any (Rows.pathEnclosedSpec.pre6 enc Try.prog Try.f3 Rows.pathEnclosedRow.domain false) (Rows.pathEnclosedSpec.post enc Try.prog Try.f3 false true false false) := by
  refine returnsInHanded_of_change (C := Try.checked) owned started (by kernel_rfl) Try.func3
    (ChangeSpec.witness6 (enc := enc) (C := Try.checked) false ⟨#[], #[.agg #[.slice none 0 0, .int .i64 0, .slice none 0 0, .int .i64 0, .slice none 0 0, .int .i64 0], .int .i64 0, .int .i64 0], []⟩ 8 (by kernel_rfl) (by kernel_rfl) (by kernel_rfl) (by kernel_rfl)) ?_
  intro W base args ds gs before hval0 hW hcnd _
  have hval : ∀ (j : Nat) t v, Try.f3.params[j]? = some t → args[j]? = some v → Value.okWide Try.prog W .any base t v := hval0
  have hW' := hW
  obtain ⟨p, q, hA0, hV, rfl, hfz, hnd⟩ := hW
  have hA : DataW.TrodAll enc Try.prog W 0 (fun _ => true) true Try.f3.params.toList args.toList ds p := hA0
  rw [Try.params3] at hA hval
  obtain ⟨v0, vs0, d0, ds0, p0, q0, hargs, rfl, rfl, h0, r0⟩ := trodAll_cons hA
  obtain ⟨v1, vs1, d1, ds1, p1, q1, rfl, rfl, rfl, h1, r1⟩ := trodAll_cons r0
  obtain ⟨v2, vs2, d2, ds2, p2, q2, rfl, rfl, rfl, h2, r2⟩ := trodAll_cons r1
  obtain ⟨rfl, rfl, rfl⟩ := trodAll_nil r2
  obtain rfl : args = #[v0, v1, v2] := by cases args; simp_all
  obtain ⟨rfl, rfl⟩ := trodVars_none hV
  have k0 := h0
  have lt0 : ∀ x ∈ p0, x.block < W.heap.size := by obtain ⟨m, hm⟩ := k0; exact DataW.trod_lt m _ _ _ hm
  obtain ⟨A, B, C, na, nb, nc, ca, cb, cc, ka, kb, kc, da, db, dc, rfl, ⟨n1, n2, n3⟩, ⟨z1, z2, z3⟩, k1, k2, k3⟩ := open_three (hval 0 25 v0 rfl rfl) h0
  obtain ⟨a1, rfl, rfl, rfl, w1⟩ := open_int Try.underlying3 (hval 1 3 v1 rfl rfl) h1
  obtain ⟨a2, rfl, rfl, rfl, w2⟩ := open_int Try.underlying3 (hval 2 3 v2 rfl rfl) h2
  clear hA0 hval0
  refine (pathEnclosed_any A B C na nb nc ca cb cc da db dc a1 a2 ka kb kc W n1 n2 n3 z1 z2 z3 k1 k2 k3).mono fun e W' ⟨he, bel⟩ => ?_
  subst he
  exact ⟨_, rfl, _, _, _, [], _, [], hW', trodAll_mk1 (shut_bool Try.underlying4 _), (trodAll_cons_mk (Below.trod laidAll (by kernel_rfl) (of_decide_eq_true (by kernel_rfl)) k0 bel lt0) (trodAll_cons_mk (shut_int Try.underlying3 w1) (trodAll_cons_mk (shut_int Try.underlying3 w2) trodAll_mk0))), rfl, bel.frame _, fun h => by cases h⟩
theorem pathEnclosed_over : Rows.pathEnclosedRow.holds Try.pinned (OpenSpec.ofChange Rows.pathEnclosedSpec) :=
  OpenClaim.holds_of_wide 3 Try.f3 rfl rfl rfl rfl rfl rfl rfl ⟨by kernel_rfl, by kernel_rfl, by kernel_rfl, by kernel_rfl, by kernel_rfl⟩ rfl rfl rfl rfl rfl (by kernel_rfl) Try.func3 (by kernel_rfl)
    (of_decide_eq_true (by kernel_rfl)) (by unfold Func.isWrapper; first | (rw [if_pos (by decide +kernel)]; kernel_rfl) | (rw [if_neg (by decide +kernel)]; exact ⟨rfl, rfl⟩))
    (fun os started H enc _ => pathEnclosed_lifted os started H enc)
/-- THE STATEMENT. -/
theorem pathEnclosed_holds : Rows.PathEnclosedSaid := pathEnclosed_over
end Go.Proofs.Ytmhcmiajikffpaa
