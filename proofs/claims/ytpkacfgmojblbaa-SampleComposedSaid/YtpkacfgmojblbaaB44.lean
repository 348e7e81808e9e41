/- Helpers: filters that are composed, in package sample. No condition but the hypotheses that each theorem names. -/
import Derived.Test.YtpkacfgmojblbaaB43
namespace Go.Proofs.Ytpkacfgmojblbaa
open Go.RowKit
attribute [local go_sem] old1 fro1 old2 fro2 old3 fro3 old4 fro4 old5 fro5 old6 fro6 old7 fro7 old8 fro8 old9 fro9 old10 fro10 old11 fro11 old12 fro12
def ra0 : List Bool := [false, false, false, false, false, false, true, false, false, false, false, false, true, true, true, true, true, true, false, false, false, false, false, false, false, false, false, false, false, false, false, false, false, false, false, false, false, false, false, false, false, false, false, false, false, false, false, false, false, false, false, false, false, false, false, false, false, false, false, false, false, false, false, false, false, false, false, false, false, false, false, false]
def ra1 : List Bool := [false, false, false, false, false, false, false, true, false, false, false, false, false, false, false, false, false, false, false, false, false, false, true, true, true, true, true, true, true, true, true, true, true, true, true, true, true, false, false, false, false, false, false, false, false, false, false, false, false, false, false, false, false, false, false, false, false, false, false, false, false, false, false, false, false, false, false, false, false, false, false, false]
/-- what is known of the variables of Composed -/
def CFx (B q : Nat) (va vb vs : Value) (d1 d2 dd : Int) (W : World) : Prop :=
  (W.cell? ⟨B, 0, none⟩ = some va ∧ W.cell? ⟨B, 1, none⟩ = some (.int .i64 d1)) ∧ (W.cell? ⟨B + 1, 0, none⟩ = some vb ∧ W.cell? ⟨B + 1, 1, none⟩ = some (.int .i64 d2)) ∧ (W.cell? ⟨q, 0, none⟩ = some vs ∧ W.cell? ⟨q, 1, none⟩ = some (.int .i64 dd)) ∧ (W.cell? ⟨B + 2, 0, none⟩ = some (.slice none 0 0) ∧ W.cell? ⟨B + 2, 1, none⟩ = some (.int .i64 0)) ∧ W.frozen? ⟨B + 2, 0, none⟩ = false ∧ W.frozen? ⟨B + 2, 1, none⟩ = false
theorem CFx.on {B q : Nat} {va vb vs : Value} {d1 d2 dd : Int} {W W1 : World} (h : CFx B q va vb vs d1 d2 dd W) (hb : Below W.heap.size W W1) : CFx B q va vb vs d1 d2 dd W1 := by
  obtain ⟨⟨a0, a1⟩, ⟨b0, b1⟩, ⟨q0, q1⟩, ⟨r0, r1⟩, z0, z1⟩ := h
  exact ⟨⟨keep hb a0, keep hb a1⟩, ⟨keep hb b0, keep hb b1⟩, ⟨keep hb q0, keep hb q1⟩, ⟨keep hb r0, keep hb r1⟩, (hb.frozen (p := ⟨B + 2, 0, none⟩) (lt_of r0)).trans z0, (hb.frozen (p := ⟨B + 2, 1, none⟩) (lt_of r1)).trans z1⟩
theorem CFx.set {B q G i : Nat} {va vb vs u : Value} {d1 d2 dd : Int} {W : World} (h : CFx B q va vb vs d1 d2 dd W) (hG : G ≠ B ∧ G ≠ B + 1 ∧ G ≠ B + 2 ∧ G ≠ q) : CFx B q va vb vs d1 d2 dd (W.setCell ⟨G, i, none⟩ u) := by
  obtain ⟨⟨a0, a1⟩, ⟨b0, b1⟩, ⟨q0, q1⟩, ⟨r0, r1⟩, z0, z1⟩ := h
  obtain ⟨g1, g2, g3, g4⟩ := hG
  have fc : ∀ b o v, G ≠ b → W.cell? ⟨b, o, none⟩ = some v → (W.setCell ⟨G, i, none⟩ u).cell? ⟨b, o, none⟩ = some v := fun b o v hb hv => (World.cell?_setCell_far _ _ _ _ hb).trans hv
  exact ⟨⟨fc _ _ _ g1 a0, fc _ _ _ g1 a1⟩, ⟨fc _ _ _ g2 b0, fc _ _ _ g2 b1⟩, ⟨fc _ _ _ g4 q0, fc _ _ _ g4 q1⟩, ⟨fc _ _ _ g3 r0, fc _ _ _ g3 r1⟩, (World.frozen?_setCell _ _ _ _).trans z0, (World.frozen?_setCell _ _ _ _).trans z1⟩
def coE (L : Nat) (xs : Nat → Int) (d1 : Int) (M : Nat) (ys : Nat → Int) (d2 : Int) : Int := fs2 (flE L xs d1) (flE M ys d2)
set_option maxRecDepth 100000 in
set_option maxHeartbeats 4000000 in
theorem composedS_err (A A2 : Option Addr) (L cA M cB : Nat) (xs ys : Nat → Int) (d1 d2 : Int) (E : Int) (hE : coE L xs d1 M ys d2 = E) (h0 : E ≠ 0) (hL : L ≤ 1000000000) (hM : M ≤ 1000000000) (w : World) (hA : IA w A L xs) (hB : IA w A2 M ys) :
    Calls Try.prog 64 #[.agg #[.slice A L cA, .int .i64 d1], .agg #[.slice A2 M cB, .int .i64 d2]] w fun e w' => e = .returned (.tuple #[.agg #[.slice none 0 0, .int .i64 0], .int .i64 E]) ∧ Below w.heap.size w w' := by
  have hq : (E != 0) = true := by simpa using h0
  have HA := Lib.hid hA
  have HB := Lib.hid hB
  clear hA hB h0
  go_enter Try.func64, Try.ntmps64
  go_upto_region 1 with fail
  have a0 : (((w.alloc (.cells #[.slice A L cA, .int .i64 d1] 82)).alloc (.cells #[.slice A2 M cB, .int .i64 d2] 82)).alloc (.cells #[.slice none 0 0, .int .i64 0] 82)).cell? ⟨w.heap.size, 0, none⟩ = some (.slice A L cA) := by simp [go_sem]
  have a1 : (((w.alloc (.cells #[.slice A L cA, .int .i64 d1] 82)).alloc (.cells #[.slice A2 M cB, .int .i64 d2] 82)).alloc (.cells #[.slice none 0 0, .int .i64 0] 82)).cell? ⟨w.heap.size, 1, none⟩ = some (.int .i64 d1) := by simp [go_sem]
  have b0 : (((w.alloc (.cells #[.slice A L cA, .int .i64 d1] 82)).alloc (.cells #[.slice A2 M cB, .int .i64 d2] 82)).alloc (.cells #[.slice none 0 0, .int .i64 0] 82)).cell? ⟨w.heap.size + 1, 0, none⟩ = some (.slice A2 M cB) := by simp [go_sem]
  have b1 : (((w.alloc (.cells #[.slice A L cA, .int .i64 d1] 82)).alloc (.cells #[.slice A2 M cB, .int .i64 d2] 82)).alloc (.cells #[.slice none 0 0, .int .i64 0] 82)).cell? ⟨w.heap.size + 1, 1, none⟩ = some (.int .i64 d2) := by simp [go_sem]
  have r0 : (((w.alloc (.cells #[.slice A L cA, .int .i64 d1] 82)).alloc (.cells #[.slice A2 M cB, .int .i64 d2] 82)).alloc (.cells #[.slice none 0 0, .int .i64 0] 82)).cell? ⟨w.heap.size + 2, 0, none⟩ = some (.slice none 0 0) := by simp [go_sem]
  have r1 : (((w.alloc (.cells #[.slice A L cA, .int .i64 d1] 82)).alloc (.cells #[.slice A2 M cB, .int .i64 d2] 82)).alloc (.cells #[.slice none 0 0, .int .i64 0] 82)).cell? ⟨w.heap.size + 2, 1, none⟩ = some (.int .i64 0) := by simp [go_sem]
  have z0 : (((w.alloc (.cells #[.slice A L cA, .int .i64 d1] 82)).alloc (.cells #[.slice A2 M cB, .int .i64 d2] 82)).alloc (.cells #[.slice none 0 0, .int .i64 0] 82)).frozen? ⟨w.heap.size + 2, 0, none⟩ = false := by simp [go_sem]
  have z1 : (((w.alloc (.cells #[.slice A L cA, .int .i64 d1] 82)).alloc (.cells #[.slice A2 M cB, .int .i64 d2] 82)).alloc (.cells #[.slice none 0 0, .int .i64 0] 82)).frozen? ⟨w.heap.size + 2, 1, none⟩ = false := by simp [go_sem]
  have BV : Hid (Below w.heap.size w (((w.alloc (.cells #[.slice A L cA, .int .i64 d1] 82)).alloc (.cells #[.slice A2 M cB, .int .i64 d2] 82)).alloc (.cells #[.slice none 0 0, .int .i64 0] 82))) := Lib.hid (by (repeat (first | with_reducible exact Below.refl _ _ | with_reducible assumption | with_reducible refine Below.alloc ?_ (by first | (simp; done) | (simp; omega) | omega) _ | with_reducible refine Below.setCell ?_ (by first | (simp; done) | (simp; omega) | omega) _ | with_reducible refine Below.drew ?_ | with_reducible refine below_drewN ?_ _)))
  generalize (((w.alloc (.cells #[.slice A L cA, .int .i64 d1] 82)).alloc (.cells #[.slice A2 M cB, .int .i64 d2] 82)).alloc (.cells #[.slice none 0 0, .int .i64 0] 82)) = v0 at *
  refine wp_region_mp [mpEq (.agg #[.slice A L cA, .int .i64 d1]), mpChk (True) (flE L xs d1), mpEq (.agg #[.slice A2 M cB, .int .i64 d2]), mpChk (True) (flE M ys d2), mpChks 2 (fun i => if i = 0 then flE L xs d1 else flE M ys d2), mpEq (.int .i64 (E)), mpEq (.int .i64 (E))] ra0 (by kernel_rfl) (by kernel_rfl) (by kernel_rfl) (
        allOps_cons (fun a' w' hb hs hd => rg_op fun K hK => by
      have e0 := (hs.get 2 (by kernel_rfl)).trans (show _ = .pointer (some ⟨w.heap.size, 0, none⟩) from rfl)
      have ec : ∀ v, a'.eval (.const v) = v := fun _ => rfl
      have c0 := keep hb a0
      have c1 := keep hb a1
      clear hs hd
      unfold Oper.wp
      generalize a'.eval = ρ at e0 ec ⊢
      simp [go_sem, e0, c0, c1]
      exact hK _ _ (Below.refl _ _) rfl) <|
        allOps_cons (fun a' w' hb hs hd => by
      exact rg_fn (φ := (mpChk (True) (flE L xs d1)).p) (vs := #[.agg #[.slice A L cA, .int .i64 d1]]) rfl (enters_of Try.func114 (by kernel_rfl) rfl) (by simp [(show a'.eval (.tmp 12) = .agg #[.slice A L cA, .int .i64 d1] from hd.get 0 12 (by kernel_rfl) (by kernel_rfl))]) ((filterCheck_chk A L cA xs d1 w' hL (HA.out.bel (belowT BV.out hb))))) <|
        allOps_cons (fun a' w' hb hs hd => rg_op fun K hK => by
      have e0 := (hs.get 3 (by kernel_rfl)).trans (show _ = .pointer (some ⟨w.heap.size + 1, 0, none⟩) from rfl)
      have ec : ∀ v, a'.eval (.const v) = v := fun _ => rfl
      have c0 := keep hb b0
      have c1 := keep hb b1
      clear hs hd
      unfold Oper.wp
      generalize a'.eval = ρ at e0 ec ⊢
      simp [go_sem, e0, c0, c1]
      exact hK _ _ (Below.refl _ _) rfl) <|
        allOps_cons (fun a' w' hb hs hd => by
      exact rg_fn (φ := (mpChk (True) (flE M ys d2)).p) (vs := #[.agg #[.slice A2 M cB, .int .i64 d2]]) rfl (enters_of Try.func114 (by kernel_rfl) rfl) (by simp [(show a'.eval (.tmp 14) = .agg #[.slice A2 M cB, .int .i64 d2] from hd.get 2 14 (by kernel_rfl) (by kernel_rfl))]) ((filterCheck_chk A2 M cB ys d2 w' hM (HB.out.bel (belowT BV.out hb))))) <|
        allOps_cons (fun a' w' hb hs hd => rg_op fun K hK => by
      have k0 : (mpChk (True) (flE L xs d1)).p (a'.eval (.tmp 13)) w' := hd.get 1 13 (by kernel_rfl) (by kernel_rfl)
      have k1 : (mpChk (True) (flE M ys d2)).p (a'.eval (.tmp 15)) w' := hd.get 3 15 (by kernel_rfl) (by kernel_rfl)
      clear hs hd
      unfold Oper.wp
      generalize a'.eval = ρ at k0 k1 ⊢
      obtain ⟨g0, f0, e0, h0⟩ := k0
      obtain ⟨g1, f1, e1, h1⟩ := k1
      simp [go_sem, e0, e1]
      have hx := (Below.refl w'.heap.size w').alloc (Nat.le_refl _) (.cells #[.func (.func g0) #[] f0, .func (.func g1) #[] f1] 121)
      refine hK _ _ hx ⟨_, rfl, fun i => if i = 0 then .func (.func g0) #[] f0 else .func (.func g1) #[] f1, fun i hi => ?_, fun i hi => ?_⟩
      · rcases (by omega : i = 0 ∨ i = 1) with rfl | rfl <;> simp [go_sem]
      · rcases (by omega : i = 0 ∨ i = 1) with rfl | rfl
        · exact Chk.imp (Chk.on (show Chk (True) (flE L xs d1) (.func (.func g0) #[] f0) w' from ⟨g0, f0, rfl, h0⟩) hx) (fun _ => trivial)
        · exact Chk.imp (Chk.on (show Chk (True) (flE M ys d2) (.func (.func g1) #[] f1) w' from ⟨g1, f1, rfl, h1⟩) hx) (fun _ => trivial)) <|
        allOps_cons (fun a' w' hb hs hd => by
      exact rg_fn (φ := (mpEq (.int .i64 (E))).p) (vs := #[a'.eval (.tmp 16)]) rfl (enters_of Try.func87 (by kernel_rfl) rfl) (by simp) ((first_chks (n := 2) (er := (fun i => if i = 0 then flE L xs d1 else flE M ys d2)) (by omega) (by omega) (hd.get 4 16 (by kernel_rfl) (by kernel_rfl))).mono (by rintro e w1 ⟨rfl, h1⟩; exact ⟨_, rfl, h1, congrArg (Value.int .i64) ((ferr_2 _ _).trans hE)⟩))) <|
        allOps_cons (fun a' w' hb hs hd => rg_op fun K hK => by
      have e0 := (show a'.eval (.tmp 17) = .int .i64 (E) from hd.get 5 17 (by kernel_rfl) (by kernel_rfl))
      have ec : ∀ v, a'.eval (.const v) = v := fun _ => rfl
      clear hs hd
      unfold Oper.wp
      generalize a'.eval = ρ at e0 ec ⊢
      simp [go_sem, e0]
      exact hK _ _ (Below.refl _ _) rfl) <| allOps_nil) (fun V v1 hv1 hall => ?_)
  have h6 : V 6 = .int .i64 (E) := hall.get 6 rfl
  clear hall
  simp only [ra0, maskPut, Nat.reduceAdd]
  rw [h6]
  clear h6
  have hRz := lt_of r0
  replace a0 := keep hv1 a0
  replace a1 := keep hv1 a1
  replace b0 := keep hv1 b0
  replace b1 := keep hv1 b1
  replace r0 := keep hv1 r0
  replace r1 := keep hv1 r1
  have hR := lt_of r0
  replace z0 := (hv1.frozen (p := ⟨w.heap.size + 2, 0, none⟩) (by first | exact hRz | exact hRz)).trans z0
  replace z1 := (hv1.frozen (p := ⟨w.heap.size + 2, 1, none⟩) (by first | exact hRz | exact hRz)).trans z1
  replace BV := Lib.hid (belowT BV.out hv1)
  clear hv1 hRz
  go_wp2
  refine bodyPost_ret (v := .tuple #[.agg #[.slice none 0 0, .int .i64 0], .int .i64 E]) (by simp [results, Try.results64, go_sem, *]) rfl ⟨rfl, by have Bq := BV.out; (repeat (first | with_reducible exact Below.refl _ _ | with_reducible assumption | with_reducible refine Below.alloc ?_ (by first | (simp; done) | (simp; omega) | omega) _ | with_reducible refine Below.setCell ?_ (by first | (simp; done) | (simp; omega) | omega) _ | with_reducible refine Below.drew ?_ | with_reducible refine below_drewN ?_ _))⟩
set_option maxRecDepth 100000 in
set_option maxHeartbeats 4000000 in
theorem composedS_big (A A2 : Option Addr) (L cA M cB : Nat) (xs ys : Nat → Int) (d1 d2 : Int) (hE : coE L xs d1 M ys d2 = 0) (hbad : flE (L + M - 1) (cvK xs ys M L) (d1 * d2) ≠ 0) (w : World) (hA : IA w A L xs) (hB : IA w A2 M ys) :
    Calls Try.prog 64 #[.agg #[.slice A L cA, .int .i64 d1], .agg #[.slice A2 M cB, .int .i64 d2]] w fun e w' => e = .returned (.tuple #[.agg #[.slice none 0 0, .int .i64 0], .int .i64 8]) ∧ Below w.heap.size w w' := by
  obtain ⟨q1, q2⟩ := fs2_0 hE
  obtain ⟨⟨hL0, hL8⟩, ⟨d10, d11⟩, hx⟩ := fl_0 q1
  obtain ⟨⟨hM0, hM8⟩, ⟨d20, d21⟩, hy⟩ := fl_0 q2
  have hL : L ≤ 1000000000 := by omega
  have hM : M ≤ 1000000000 := by omega
  have HA := Lib.hid hA
  have HB := Lib.hid hB
  have HX := Lib.hid hx
  have HY := Lib.hid hy
  have HCB := Lib.hid (cvK_bd hx hy hM8)
  have hm := mbd (a := d1) (b := d2) (A := 100) (B := 100) (by omega) (by omega) (by omega) (by omega)
  obtain ⟨S, hS⟩ : ∃ S : Nat, L + M = S := ⟨_, rfl⟩
  obtain ⟨N, hN⟩ : ∃ N : Nat, L + M - 1 = N := ⟨_, rfl⟩
  have x1 : IntKind.i64.wrap ((L : Int) + (M : Int)) = (S : Int) := by rw [IntWalk.i64_in _ (by omega)]; omega
  have x2 : IntKind.i64.wrap ((S : Int) - 1) = (N : Int) := by rw [IntWalk.i64_in _ (by omega)]; omega
  have hN1 : 0 < N := by omega
  rw [hN] at hbad
  have x3 : IntKind.i64.wrap (d1 * d2) = d1 * d2 := IntWalk.i64_in _ (by omega)
  have HCF := Lib.hid (fun A1 c1 f dd W (h : IA W A1 N f) => checkFilter_any A1 N c1 f dd W (by omega) h)
  clear hA hB q1 q2 hx hy hm d10 d11 d20 d21
  go_enter Try.func64, Try.ntmps64
  go_upto_region 1 with fail
  have a0 : (((w.alloc (.cells #[.slice A L cA, .int .i64 d1] 82)).alloc (.cells #[.slice A2 M cB, .int .i64 d2] 82)).alloc (.cells #[.slice none 0 0, .int .i64 0] 82)).cell? ⟨w.heap.size, 0, none⟩ = some (.slice A L cA) := by simp [go_sem]
  have a1 : (((w.alloc (.cells #[.slice A L cA, .int .i64 d1] 82)).alloc (.cells #[.slice A2 M cB, .int .i64 d2] 82)).alloc (.cells #[.slice none 0 0, .int .i64 0] 82)).cell? ⟨w.heap.size, 1, none⟩ = some (.int .i64 d1) := by simp [go_sem]
  have b0 : (((w.alloc (.cells #[.slice A L cA, .int .i64 d1] 82)).alloc (.cells #[.slice A2 M cB, .int .i64 d2] 82)).alloc (.cells #[.slice none 0 0, .int .i64 0] 82)).cell? ⟨w.heap.size + 1, 0, none⟩ = some (.slice A2 M cB) := by simp [go_sem]
  have b1 : (((w.alloc (.cells #[.slice A L cA, .int .i64 d1] 82)).alloc (.cells #[.slice A2 M cB, .int .i64 d2] 82)).alloc (.cells #[.slice none 0 0, .int .i64 0] 82)).cell? ⟨w.heap.size + 1, 1, none⟩ = some (.int .i64 d2) := by simp [go_sem]
  have r0 : (((w.alloc (.cells #[.slice A L cA, .int .i64 d1] 82)).alloc (.cells #[.slice A2 M cB, .int .i64 d2] 82)).alloc (.cells #[.slice none 0 0, .int .i64 0] 82)).cell? ⟨w.heap.size + 2, 0, none⟩ = some (.slice none 0 0) := by simp [go_sem]
  have r1 : (((w.alloc (.cells #[.slice A L cA, .int .i64 d1] 82)).alloc (.cells #[.slice A2 M cB, .int .i64 d2] 82)).alloc (.cells #[.slice none 0 0, .int .i64 0] 82)).cell? ⟨w.heap.size + 2, 1, none⟩ = some (.int .i64 0) := by simp [go_sem]
  have z0 : (((w.alloc (.cells #[.slice A L cA, .int .i64 d1] 82)).alloc (.cells #[.slice A2 M cB, .int .i64 d2] 82)).alloc (.cells #[.slice none 0 0, .int .i64 0] 82)).frozen? ⟨w.heap.size + 2, 0, none⟩ = false := by simp [go_sem]
  have z1 : (((w.alloc (.cells #[.slice A L cA, .int .i64 d1] 82)).alloc (.cells #[.slice A2 M cB, .int .i64 d2] 82)).alloc (.cells #[.slice none 0 0, .int .i64 0] 82)).frozen? ⟨w.heap.size + 2, 1, none⟩ = false := by simp [go_sem]
  have BV : Hid (Below w.heap.size w (((w.alloc (.cells #[.slice A L cA, .int .i64 d1] 82)).alloc (.cells #[.slice A2 M cB, .int .i64 d2] 82)).alloc (.cells #[.slice none 0 0, .int .i64 0] 82))) := Lib.hid (by (repeat (first | with_reducible exact Below.refl _ _ | with_reducible assumption | with_reducible refine Below.alloc ?_ (by first | (simp; done) | (simp; omega) | omega) _ | with_reducible refine Below.setCell ?_ (by first | (simp; done) | (simp; omega) | omega) _ | with_reducible refine Below.drew ?_ | with_reducible refine below_drewN ?_ _)))
  generalize (((w.alloc (.cells #[.slice A L cA, .int .i64 d1] 82)).alloc (.cells #[.slice A2 M cB, .int .i64 d2] 82)).alloc (.cells #[.slice none 0 0, .int .i64 0] 82)) = v0 at *
  refine wp_region_mp [mpEq (.agg #[.slice A L cA, .int .i64 d1]), mpChk (True) (flE L xs d1), mpEq (.agg #[.slice A2 M cB, .int .i64 d2]), mpChk (True) (flE M ys d2), mpChks 2 (fun i => if i = 0 then flE L xs d1 else flE M ys d2), mpEq (.int .i64 (0)), mpEq (.int .i64 (0))] ra0 (by kernel_rfl) (by kernel_rfl) (by kernel_rfl) (
        allOps_cons (fun a' w' hb hs hd => rg_op fun K hK => by
      have e0 := (hs.get 2 (by kernel_rfl)).trans (show _ = .pointer (some ⟨w.heap.size, 0, none⟩) from rfl)
      have ec : ∀ v, a'.eval (.const v) = v := fun _ => rfl
      have c0 := keep hb a0
      have c1 := keep hb a1
      clear hs hd
      unfold Oper.wp
      generalize a'.eval = ρ at e0 ec ⊢
      simp [go_sem, e0, c0, c1]
      exact hK _ _ (Below.refl _ _) rfl) <|
        allOps_cons (fun a' w' hb hs hd => by
      exact rg_fn (φ := (mpChk (True) (flE L xs d1)).p) (vs := #[.agg #[.slice A L cA, .int .i64 d1]]) rfl (enters_of Try.func114 (by kernel_rfl) rfl) (by simp [(show a'.eval (.tmp 12) = .agg #[.slice A L cA, .int .i64 d1] from hd.get 0 12 (by kernel_rfl) (by kernel_rfl))]) ((filterCheck_chk A L cA xs d1 w' hL (HA.out.bel (belowT BV.out hb))))) <|
        allOps_cons (fun a' w' hb hs hd => rg_op fun K hK => by
      have e0 := (hs.get 3 (by kernel_rfl)).trans (show _ = .pointer (some ⟨w.heap.size + 1, 0, none⟩) from rfl)
      have ec : ∀ v, a'.eval (.const v) = v := fun _ => rfl
      have c0 := keep hb b0
      have c1 := keep hb b1
      clear hs hd
      unfold Oper.wp
      generalize a'.eval = ρ at e0 ec ⊢
      simp [go_sem, e0, c0, c1]
      exact hK _ _ (Below.refl _ _) rfl) <|
        allOps_cons (fun a' w' hb hs hd => by
      exact rg_fn (φ := (mpChk (True) (flE M ys d2)).p) (vs := #[.agg #[.slice A2 M cB, .int .i64 d2]]) rfl (enters_of Try.func114 (by kernel_rfl) rfl) (by simp [(show a'.eval (.tmp 14) = .agg #[.slice A2 M cB, .int .i64 d2] from hd.get 2 14 (by kernel_rfl) (by kernel_rfl))]) ((filterCheck_chk A2 M cB ys d2 w' hM (HB.out.bel (belowT BV.out hb))))) <|
        allOps_cons (fun a' w' hb hs hd => rg_op fun K hK => by
      have k0 : (mpChk (True) (flE L xs d1)).p (a'.eval (.tmp 13)) w' := hd.get 1 13 (by kernel_rfl) (by kernel_rfl)
      have k1 : (mpChk (True) (flE M ys d2)).p (a'.eval (.tmp 15)) w' := hd.get 3 15 (by kernel_rfl) (by kernel_rfl)
      clear hs hd
      unfold Oper.wp
      generalize a'.eval = ρ at k0 k1 ⊢
      obtain ⟨g0, f0, e0, h0⟩ := k0
      obtain ⟨g1, f1, e1, h1⟩ := k1
      simp [go_sem, e0, e1]
      have hx := (Below.refl w'.heap.size w').alloc (Nat.le_refl _) (.cells #[.func (.func g0) #[] f0, .func (.func g1) #[] f1] 121)
      refine hK _ _ hx ⟨_, rfl, fun i => if i = 0 then .func (.func g0) #[] f0 else .func (.func g1) #[] f1, fun i hi => ?_, fun i hi => ?_⟩
      · rcases (by omega : i = 0 ∨ i = 1) with rfl | rfl <;> simp [go_sem]
      · rcases (by omega : i = 0 ∨ i = 1) with rfl | rfl
        · exact Chk.imp (Chk.on (show Chk (True) (flE L xs d1) (.func (.func g0) #[] f0) w' from ⟨g0, f0, rfl, h0⟩) hx) (fun _ => trivial)
        · exact Chk.imp (Chk.on (show Chk (True) (flE M ys d2) (.func (.func g1) #[] f1) w' from ⟨g1, f1, rfl, h1⟩) hx) (fun _ => trivial)) <|
        allOps_cons (fun a' w' hb hs hd => by
      exact rg_fn (φ := (mpEq (.int .i64 (0))).p) (vs := #[a'.eval (.tmp 16)]) rfl (enters_of Try.func87 (by kernel_rfl) rfl) (by simp) ((first_chks (n := 2) (er := (fun i => if i = 0 then flE L xs d1 else flE M ys d2)) (by omega) (by omega) (hd.get 4 16 (by kernel_rfl) (by kernel_rfl))).mono (by rintro e w1 ⟨rfl, h1⟩; exact ⟨_, rfl, h1, congrArg (Value.int .i64) ((ferr_2 _ _).trans hE)⟩))) <|
        allOps_cons (fun a' w' hb hs hd => rg_op fun K hK => by
      have e0 := (show a'.eval (.tmp 17) = .int .i64 (0) from hd.get 5 17 (by kernel_rfl) (by kernel_rfl))
      have ec : ∀ v, a'.eval (.const v) = v := fun _ => rfl
      clear hs hd
      unfold Oper.wp
      generalize a'.eval = ρ at e0 ec ⊢
      simp [go_sem, e0]
      exact hK _ _ (Below.refl _ _) rfl) <| allOps_nil) (fun V v1 hv1 hall => ?_)
  have h6 : V 6 = .int .i64 (0) := hall.get 6 rfl
  clear hall
  simp only [ra0, maskPut, Nat.reduceAdd]
  rw [h6]
  clear h6
  have hRz := lt_of r0
  replace a0 := keep hv1 a0
  replace a1 := keep hv1 a1
  replace b0 := keep hv1 b0
  replace b1 := keep hv1 b1
  replace r0 := keep hv1 r0
  replace r1 := keep hv1 r1
  have hR := lt_of r0
  replace z0 := (hv1.frozen (p := ⟨w.heap.size + 2, 0, none⟩) (by first | exact hRz | exact hRz)).trans z0
  replace z1 := (hv1.frozen (p := ⟨w.heap.size + 2, 1, none⟩) (by first | exact hRz | exact hRz)).trans z1
  replace BV := Lib.hid (belowT BV.out hv1)
  clear hv1 hRz
  go_upto_region 4 with fail
  refine wp_region_last [mpEq (.pointer (some ⟨w.heap.size, 0, none⟩)), mpEq (.slice A L cA), mpEq (.int .i64 (L : Nat)), mpEq (.pointer (some ⟨w.heap.size + 1, 0, none⟩)), mpEq (.slice A2 M cB), mpEq (.int .i64 (M : Nat)), mpEq (.int .i64 (S : Int)), mpEq (.int .i64 (N : Int)), mpRow v1.heap.size N, mpEq (.pointer (some ⟨w.heap.size, 1, none⟩)), mpEq (.int .i64 d1), mpEq (.pointer (some ⟨w.heap.size + 1, 1, none⟩)), mpEq (.int .i64 d2), mpEq (.int .i64 (d1 * d2)), mpFV v1.heap.size N (d1 * d2), mpF0 v1.heap.size] 16 ra1 (by kernel_rfl) (by kernel_rfl) (by kernel_rfl) rfl (by kernel_rfl) (
        allOps_cons (fun _ a' w' hb hs hd => rg_op fun K hK => by
      have e0 := (hs.get 2 (by kernel_rfl)).trans (show _ = .pointer (some ⟨w.heap.size, 0, none⟩) from rfl)
      have ec : ∀ v, a'.eval (.const v) = v := fun _ => rfl
      clear hs hd
      unfold Oper.wp
      generalize a'.eval = ρ at e0 ec ⊢
      simp [go_sem, e0]
      exact hK _ _ (Below.refl _ _) rfl) <|
        allOps_cons (fun _ a' w' hb hs hd => rg_op fun K hK => by
      have e0 := (show a'.eval (.tmp 22) = .pointer (some ⟨w.heap.size, 0, none⟩) from hd.get 0 22 (by kernel_rfl) (by kernel_rfl))
      have ec : ∀ v, a'.eval (.const v) = v := fun _ => rfl
      have c0 := keep hb a0
      clear hs hd
      unfold Oper.wp
      generalize a'.eval = ρ at e0 ec ⊢
      simp [go_sem, e0, c0]
      exact hK _ _ (Below.refl _ _) rfl) <|
        allOps_cons (fun _ a' w' hb hs hd => rg_op fun K hK => by
      have e0 := (show a'.eval (.tmp 23) = .slice A L cA from hd.get 1 23 (by kernel_rfl) (by kernel_rfl))
      have ec : ∀ v, a'.eval (.const v) = v := fun _ => rfl
      clear hs hd
      unfold Oper.wp
      generalize a'.eval = ρ at e0 ec ⊢
      simp [go_sem, e0]
      exact hK _ _ (Below.refl _ _) rfl) <|
        allOps_cons (fun _ a' w' hb hs hd => rg_op fun K hK => by
      have e0 := (hs.get 3 (by kernel_rfl)).trans (show _ = .pointer (some ⟨w.heap.size + 1, 0, none⟩) from rfl)
      have ec : ∀ v, a'.eval (.const v) = v := fun _ => rfl
      clear hs hd
      unfold Oper.wp
      generalize a'.eval = ρ at e0 ec ⊢
      simp [go_sem, e0]
      exact hK _ _ (Below.refl _ _) rfl) <|
        allOps_cons (fun _ a' w' hb hs hd => rg_op fun K hK => by
      have e0 := (show a'.eval (.tmp 25) = .pointer (some ⟨w.heap.size + 1, 0, none⟩) from hd.get 3 25 (by kernel_rfl) (by kernel_rfl))
      have ec : ∀ v, a'.eval (.const v) = v := fun _ => rfl
      have c0 := keep hb b0
      clear hs hd
      unfold Oper.wp
      generalize a'.eval = ρ at e0 ec ⊢
      simp [go_sem, e0, c0]
      exact hK _ _ (Below.refl _ _) rfl) <|
        allOps_cons (fun _ a' w' hb hs hd => rg_op fun K hK => by
      have e0 := (show a'.eval (.tmp 26) = .slice A2 M cB from hd.get 4 26 (by kernel_rfl) (by kernel_rfl))
      have ec : ∀ v, a'.eval (.const v) = v := fun _ => rfl
      clear hs hd
      unfold Oper.wp
      generalize a'.eval = ρ at e0 ec ⊢
      simp [go_sem, e0]
      exact hK _ _ (Below.refl _ _) rfl) <|
        allOps_cons (fun _ a' w' hb hs hd => rg_op fun K hK => by
      have e0 := (show a'.eval (.tmp 24) = .int .i64 (L : Nat) from hd.get 2 24 (by kernel_rfl) (by kernel_rfl))
      have e1 := (show a'.eval (.tmp 27) = .int .i64 (M : Nat) from hd.get 5 27 (by kernel_rfl) (by kernel_rfl))
      have ec : ∀ v, a'.eval (.const v) = v := fun _ => rfl
      clear hs hd
      unfold Oper.wp
      generalize a'.eval = ρ at e0 e1 ec ⊢
      simp [go_sem, e0, e1, x1]
      exact hK _ _ (Below.refl _ _) rfl) <|
        allOps_cons (fun _ a' w' hb hs hd => rg_op fun K hK => by
      have e0 := (show a'.eval (.tmp 28) = .int .i64 (S : Int) from hd.get 6 28 (by kernel_rfl) (by kernel_rfl))
      have ec : ∀ v, a'.eval (.const v) = v := fun _ => rfl
      clear hs hd
      unfold Oper.wp
      generalize a'.eval = ρ at e0 ec ⊢
      simp [go_sem, e0, ec, x2]
      exact hK _ _ (Below.refl _ _) rfl) <|
        allOps_cons (fun _ a' w' hb hs hd => rg_op fun K hK => by
      have e0 : a'.eval (.tmp 29) = .int .i64 (N : Int) := (show a'.eval (.tmp 29) = .int .i64 (N : Int) from hd.get 7 29 (by kernel_rfl) (by kernel_rfl))
      have hz := hb.size
      clear hs hd
      exact op_make rfl e0 e0 (by omega) fun w1 h1 h2 => hK _ _ h2 ⟨_, rfl, hz, h1⟩) <|
        allOps_cons (fun _ a' w' hb hs hd => rg_op fun K hK => by
      have e0 := (hs.get 2 (by kernel_rfl)).trans (show _ = .pointer (some ⟨w.heap.size, 0, none⟩) from rfl)
      have ec : ∀ v, a'.eval (.const v) = v := fun _ => rfl
      clear hs hd
      unfold Oper.wp
      generalize a'.eval = ρ at e0 ec ⊢
      simp [go_sem, e0]
      exact hK _ _ (Below.refl _ _) rfl) <|
        allOps_cons (fun _ a' w' hb hs hd => rg_op fun K hK => by
      have e0 := (show a'.eval (.tmp 31) = .pointer (some ⟨w.heap.size, 1, none⟩) from hd.get 9 31 (by kernel_rfl) (by kernel_rfl))
      have ec : ∀ v, a'.eval (.const v) = v := fun _ => rfl
      have c0 := keep hb a1
      clear hs hd
      unfold Oper.wp
      generalize a'.eval = ρ at e0 ec ⊢
      simp [go_sem, e0, c0]
      exact hK _ _ (Below.refl _ _) rfl) <|
        allOps_cons (fun _ a' w' hb hs hd => rg_op fun K hK => by
      have e0 := (hs.get 3 (by kernel_rfl)).trans (show _ = .pointer (some ⟨w.heap.size + 1, 0, none⟩) from rfl)
      have ec : ∀ v, a'.eval (.const v) = v := fun _ => rfl
      clear hs hd
      unfold Oper.wp
      generalize a'.eval = ρ at e0 ec ⊢
      simp [go_sem, e0]
      exact hK _ _ (Below.refl _ _) rfl) <|
        allOps_cons (fun _ a' w' hb hs hd => rg_op fun K hK => by
      have e0 := (show a'.eval (.tmp 33) = .pointer (some ⟨w.heap.size + 1, 1, none⟩) from hd.get 11 33 (by kernel_rfl) (by kernel_rfl))
      have ec : ∀ v, a'.eval (.const v) = v := fun _ => rfl
      have c0 := keep hb b1
      clear hs hd
      unfold Oper.wp
      generalize a'.eval = ρ at e0 ec ⊢
      simp [go_sem, e0, c0]
      exact hK _ _ (Below.refl _ _) rfl) <|
        allOps_cons (fun _ a' w' hb hs hd => rg_op fun K hK => by
      have e0 := (show a'.eval (.tmp 32) = .int .i64 d1 from hd.get 10 32 (by kernel_rfl) (by kernel_rfl))
      have e1 := (show a'.eval (.tmp 34) = .int .i64 d2 from hd.get 12 34 (by kernel_rfl) (by kernel_rfl))
      have ec : ∀ v, a'.eval (.const v) = v := fun _ => rfl
      clear hs hd
      unfold Oper.wp
      generalize a'.eval = ρ at e0 e1 ec ⊢
      simp [go_sem, e0, e1, x3]
      exact hK _ _ (Below.refl _ _) rfl) <|
        allOps_cons (fun _ a' w' hb hs hd => rg_op fun K hK => by
      obtain ⟨G, e1, hG1, hG2⟩ := (show (mpRow v1.heap.size N).p (a'.eval (.tmp 30)) w' from hd.get 8 30 (by kernel_rfl) (by kernel_rfl))
      have e0 := (show a'.eval (.tmp 35) = .int .i64 (d1 * d2) from hd.get 13 35 (by kernel_rfl) (by kernel_rfl))
      clear hs hd
      unfold Oper.wp
      generalize a'.eval = ρ at e0 e1 ⊢
      simp [go_sem, e0, e1]
      exact hK _ _ (Below.refl _ _) ⟨G, rfl, hG1, hG2⟩) <|
        allOps_cons (fun _ a' w' hb hs hd => rg_op fun K hK => by
      have hz := hb.size
      clear hs hd
      unfold Oper.wp
      generalize a'.eval = ρ
      simp [go_sem]
      exact hK _ _ ((Below.refl _ _).alloc (Nat.le_refl _) _) ⟨_, rfl, hz, ⟨by simp [go_sem], by simp [go_sem]⟩, by simp [go_sem], by simp [go_sem]⟩) <| allOps_cons (fun h => absurd rfl h) <| allOps_nil) (fun V v2 hv2 hall K hK => ?_)
  have h7 : (mpF0 v1.heap.size).p (V 7) v2 := hall.get 15 rfl (by decide)
  have h36 : (mpFV v1.heap.size N (d1 * d2)).p (V 36) v2 := hall.get 14 rfl (by decide)
  clear hall
  obtain ⟨q, eq7, hBq, ⟨s0, s1⟩, fq0, fq1⟩ := h7
  obtain ⟨G, eG, hBG, hIG⟩ := h36
  have hGq : G ≠ q := by
    intro e
    subst e
    have := (hIG.2 0 (by omega)).1
    rw [s0] at this
    cases this
  refine op_stF rfl eq7 eG s0 s1 fq0 fq1 ?_
  refine hK _ _ ?_
  simp only [ra1, maskPut, Nat.reduceAdd]
  rw [eq7]
  have hv3 : Below v1.heap.size v1 ((v2.setCell ⟨q, 0, none⟩ (.slice (some ⟨G, 0, none⟩) N N)).setCell ⟨q, 1, none⟩ (.int .i64 (d1 * d2))) := (hv2.setCell hBq _).setCell hBq _
  have HI : Hid (IM ((v2.setCell ⟨q, 0, none⟩ (.slice (some ⟨G, 0, none⟩) N N)).setCell ⟨q, 1, none⟩ (.int .i64 (d1 * d2))) G N (fun _ => 0)) := Lib.hid ((hIG.far hGq _).far hGq _)
  have t0 : ((v2.setCell ⟨q, 0, none⟩ (.slice (some ⟨G, 0, none⟩) N N)).setCell ⟨q, 1, none⟩ (.int .i64 (d1 * d2))).cell? ⟨q, 0, none⟩ = some (.slice (some ⟨G, 0, none⟩) N N) := by simp [go_sem, s0]
  have t1 : ((v2.setCell ⟨q, 0, none⟩ (.slice (some ⟨G, 0, none⟩) N N)).setCell ⟨q, 1, none⟩ (.int .i64 (d1 * d2))).cell? ⟨q, 1, none⟩ = some (.int .i64 (d1 * d2)) := by simp [go_sem, s1]
  have HC : Hid (CFx w.heap.size q (.slice A L cA) (.slice A2 M cB) (.slice (some ⟨G, 0, none⟩) N N) d1 d2 (d1 * d2) ((v2.setCell ⟨q, 0, none⟩ (.slice (some ⟨G, 0, none⟩) N N)).setCell ⟨q, 1, none⟩ (.int .i64 (d1 * d2)))) := Lib.hid ⟨⟨keep hv3 a0, keep hv3 a1⟩, ⟨keep hv3 b0, keep hv3 b1⟩, ⟨t0, t1⟩, ⟨keep hv3 r0, keep hv3 r1⟩, (hv3.frozen (p := ⟨w.heap.size + 2, 0, none⟩) (lt_of r0)).trans z0, (hv3.frozen (p := ⟨w.heap.size + 2, 1, none⟩) (lt_of r1)).trans z1⟩
  have hGB : G ≠ w.heap.size ∧ G ≠ w.heap.size + 1 ∧ G ≠ w.heap.size + 2 ∧ G ≠ q := by have := lt_of r0; refine ⟨?_, ?_, ?_, hGq⟩ <;> omega
  have hGw : w.heap.size ≤ G := by have := lt_of r0; omega
  replace BV := Lib.hid (belowT BV.out hv3)
  clear hK hv2 hv3 hIG s0 s1 fq0 fq1 t0 t1 a0 a1 b0 b1 r0 r1 z0 z1 hBq hBG eG eq7 hR
  generalize ((v2.setCell ⟨q, 0, none⟩ (.slice (some ⟨G, 0, none⟩) N N)).setCell ⟨q, 1, none⟩ (.int .i64 (d1 * d2))) = v3 at *
  generalize hdd : d1 * d2 = dd at *
  have aa0 := HC.out.1.1
  go_wp2_with fail
  go_loopw [40] (fun s40 wr => ∃ k : Nat, k ≤ L ∧ s40 = .int .i64 k ∧ Hid (Below w.heap.size w wr) ∧ Hid (CFx w.heap.size q (.slice A L cA) (.slice A2 M cB) (.slice (some ⟨G, 0, none⟩) N N) d1 d2 dd wr) ∧ Hid (IM wr G N (cvK xs ys M k))) (fun i _ => L - (intOf i).toNat)
  case atStart => exact ⟨0, Nat.zero_le _, rfl, BV.out, HC.out, HI.out⟩
  case round =>
    obtain ⟨k, hk, rfl, BV, HC, HI⟩ := hrel
    clear aa0
    by_cases hlt : k < L
    · obtain ⟨bA, oA, rfl, hA2⟩ := HA.out (by omega)
      have x0 := keep BV.out (hA2 k hlt)
      have b0 := HC.out.2.1.1
      have g1 : (0 : Int) ≤ (k : Int) := by omega
      have g2 : (k : Int) < (L : Int) := by omega
      have hxk := HX.out k hlt
      have hbk := HCB.out k (by omega)
      have HXk := Lib.hid hxk
      have HBk := Lib.hid hbk
      clear hA2 hxk hbk
      obtain ⟨wo, rfl⟩ : ∃ wo : World, wo = wr := ⟨_, rfl⟩
      have HKs : Hid (cvK xs ys M (k + 1) = cvJ (cvK xs ys M k) (xs k) ys k M) := rfl
      generalize cvK xs ys M k = fk at *
      generalize xs k = x at *
      go_wp2_with fail
      go_loopw [48] (fun s48 wi => ∃ j : Nat, j ≤ M ∧ s48 = .int .i64 j ∧ Hid (Below w.heap.size w wi) ∧ Hid (CFx w.heap.size q (.slice (some ⟨bA, oA, none⟩) L cA) (.slice A2 M cB) (.slice (some ⟨G, 0, none⟩) N N) d1 d2 dd wi) ∧ Hid (IM wi G N (cvJ fk x ys k j))) (fun i _ => M - (intOf i).toNat)
      case atStart => exact ⟨0, Nat.zero_le _, rfl, BV.out, HC.out, HI.out⟩
      case round =>
        obtain ⟨j, hj, rfl, BV, HC, HI⟩ := hrel
        clear x0 b0
        by_cases hlj : j < M
        · obtain ⟨bB, oB, rfl, hB2⟩ := HB.out (by omega)
          have y0 := keep BV.out (hB2 j hlj)
          have q0 := HC.out.2.2.1.1
          have c0 := (HI.out.2 (k + j) (by omega)).1
          have f0 := (HI.out.2 (k + j) (by omega)).2
          have hyj := HY.out j hlj
          have hm := mbd (a := x) (b := ys j) (A := 100) (B := 100) HXk.out.1 HXk.out.2 hyj.1 hyj.2
          have hcb := cvJ_bd (k := k) HBk.out HXk.out.1 HXk.out.2 j (fun i hi => HY.out i (by omega)) (k + j)
          have u1 : IntKind.i64.wrap ((k : Int) + (j : Int)) = ((k + j : Nat) : Int) := by rw [IntWalk.i64_in _ (by omega)]; omega
          have u2 : IntKind.i64.wrap (x * ys j) = x * ys j := IntWalk.i64_in _ (by omega)
          have u3 : IntKind.i64.wrap (cvJ fk x ys k j (k + j) + x * ys j) = cvJ fk x ys k j (k + j) + x * ys j := IntWalk.i64_in _ (by omega)
          have g3 : (0 : Int) ≤ (j : Int) := by omega
          have g4 : (j : Int) < (M : Int) := by omega
          have g5 : (0 : Int) ≤ ((k + j : Nat) : Int) := by omega
          have g6 : ((k + j : Nat) : Int) < (N : Int) := by omega
          have HJs : Hid (∀ i, cvJ fk x ys k (j + 1) i = if i = k + j then cvJ fk x ys k j (k + j) + x * ys j else cvJ fk x ys k j i) := Lib.hid (fun _ => rfl)
          clear hB2 hyj hm hcb
          generalize ys j = yj at *
          generalize hcv : cvJ fk x ys k j (k + j) = cv at *
          go_wp2_with fail
          go_roundw
          case rel => exact ⟨j + 1, by omega, by go_num, BV.out.setCell hGw _, HC.out.set hGB, (HI.out.set (k := k + j) (by omega) _).same (fun i _ => (HJs.out i).symm)⟩
          case measure => simp [intOf]; omega
        · obtain rfl : j = M := by omega
          go_wp2_with fail
          go_roundw
          case rel => exact ⟨k + 1, by omega, by go_num, BV.out, HC.out, by rw [HKs.out]; exact HI.out⟩
          case measure => simp [intOf]; omega
    · obtain rfl : k = L := by omega
      have q0 := HC.out.2.2.1.1
      have q1 := HC.out.2.2.1.2
      have HCF2 := Lib.hid (HCF.out _ N _ dd _ HI.out.ia)
      have hq : (flE N (cvK xs ys M k) dd != 0) = true := by simpa using hbad
      go_wp2_with (go_at_call 61; (with_reducible refine Calls.mono HCF2.out ?_); rintro e y1 ⟨rfl, hb1⟩; have HC1 := Lib.hid (HC.out.on hb1); have BV1 := Lib.hid (belowT BV.out hb1); have r0 := HC1.out.2.2.2.1.1; have r1 := HC1.out.2.2.2.1.2; have z0 := HC1.out.2.2.2.2.1; have z1 := HC1.out.2.2.2.2.2; clear hb1)
      refine bodyPost_ret (v := .tuple #[.agg #[.slice none 0 0, .int .i64 0], .int .i64 8]) (by simp [results, Try.results64, go_sem, *]) rfl ⟨rfl, by have Bq := BV1.out; (repeat (first | with_reducible exact Below.refl _ _ | with_reducible assumption | with_reducible refine Below.alloc ?_ (by first | (simp; done) | (simp; omega) | omega) _ | with_reducible refine Below.setCell ?_ (by first | (simp; done) | (simp; omega) | omega) _ | with_reducible refine Below.drew ?_ | with_reducible refine below_drewN ?_ _))⟩
set_option maxRecDepth 100000 in
set_option maxHeartbeats 4000000 in
theorem composedS_ok (A A2 : Option Addr) (L cA M cB : Nat) (xs ys : Nat → Int) (d1 d2 : Int) (hE : coE L xs d1 M ys d2 = 0) (hgood : flE (L + M - 1) (cvK xs ys M L) (d1 * d2) = 0) (w : World) (hA : IA w A L xs) (hB : IA w A2 M ys) :
    Calls Try.prog 64 #[.agg #[.slice A L cA, .int .i64 d1], .agg #[.slice A2 M cB, .int .i64 d2]] w fun e w' => ∃ G, e = .returned (.tuple #[.agg #[.slice (some ⟨G, 0, none⟩) (L + M - 1) (L + M - 1), .int .i64 (d1 * d2)], .int .i64 0]) ∧ Below w.heap.size w w' ∧ IA w' (some ⟨G, 0, none⟩) (L + M - 1) (cvK xs ys M L) := by
  obtain ⟨q1, q2⟩ := fs2_0 hE
  obtain ⟨⟨hL0, hL8⟩, ⟨d10, d11⟩, hx⟩ := fl_0 q1
  obtain ⟨⟨hM0, hM8⟩, ⟨d20, d21⟩, hy⟩ := fl_0 q2
  have hL : L ≤ 1000000000 := by omega
  have hM : M ≤ 1000000000 := by omega
  have HA := Lib.hid hA
  have HB := Lib.hid hB
  have HX := Lib.hid hx
  have HY := Lib.hid hy
  have HCB := Lib.hid (cvK_bd hx hy hM8)
  have hm := mbd (a := d1) (b := d2) (A := 100) (B := 100) (by omega) (by omega) (by omega) (by omega)
  obtain ⟨S, hS⟩ : ∃ S : Nat, L + M = S := ⟨_, rfl⟩
  obtain ⟨N, hN⟩ : ∃ N : Nat, L + M - 1 = N := ⟨_, rfl⟩
  have x1 : IntKind.i64.wrap ((L : Int) + (M : Int)) = (S : Int) := by rw [IntWalk.i64_in _ (by omega)]; omega
  have x2 : IntKind.i64.wrap ((S : Int) - 1) = (N : Int) := by rw [IntWalk.i64_in _ (by omega)]; omega
  have hN1 : 0 < N := by omega
  rw [hN] at hgood ⊢
  have x3 : IntKind.i64.wrap (d1 * d2) = d1 * d2 := IntWalk.i64_in _ (by omega)
  have HCF := Lib.hid (fun A1 c1 f dd W (h : IA W A1 N f) => checkFilter_any A1 N c1 f dd W (by omega) h)
  clear hA hB q1 q2 hx hy hm d10 d11 d20 d21
  go_enter Try.func64, Try.ntmps64
  go_upto_region 1 with fail
  have a0 : (((w.alloc (.cells #[.slice A L cA, .int .i64 d1] 82)).alloc (.cells #[.slice A2 M cB, .int .i64 d2] 82)).alloc (.cells #[.slice none 0 0, .int .i64 0] 82)).cell? ⟨w.heap.size, 0, none⟩ = some (.slice A L cA) := by simp [go_sem]
  have a1 : (((w.alloc (.cells #[.slice A L cA, .int .i64 d1] 82)).alloc (.cells #[.slice A2 M cB, .int .i64 d2] 82)).alloc (.cells #[.slice none 0 0, .int .i64 0] 82)).cell? ⟨w.heap.size, 1, none⟩ = some (.int .i64 d1) := by simp [go_sem]
  have b0 : (((w.alloc (.cells #[.slice A L cA, .int .i64 d1] 82)).alloc (.cells #[.slice A2 M cB, .int .i64 d2] 82)).alloc (.cells #[.slice none 0 0, .int .i64 0] 82)).cell? ⟨w.heap.size + 1, 0, none⟩ = some (.slice A2 M cB) := by simp [go_sem]
  have b1 : (((w.alloc (.cells #[.slice A L cA, .int .i64 d1] 82)).alloc (.cells #[.slice A2 M cB, .int .i64 d2] 82)).alloc (.cells #[.slice none 0 0, .int .i64 0] 82)).cell? ⟨w.heap.size + 1, 1, none⟩ = some (.int .i64 d2) := by simp [go_sem]
  have r0 : (((w.alloc (.cells #[.slice A L cA, .int .i64 d1] 82)).alloc (.cells #[.slice A2 M cB, .int .i64 d2] 82)).alloc (.cells #[.slice none 0 0, .int .i64 0] 82)).cell? ⟨w.heap.size + 2, 0, none⟩ = some (.slice none 0 0) := by simp [go_sem]
  have r1 : (((w.alloc (.cells #[.slice A L cA, .int .i64 d1] 82)).alloc (.cells #[.slice A2 M cB, .int .i64 d2] 82)).alloc (.cells #[.slice none 0 0, .int .i64 0] 82)).cell? ⟨w.heap.size + 2, 1, none⟩ = some (.int .i64 0) := by simp [go_sem]
  have z0 : (((w.alloc (.cells #[.slice A L cA, .int .i64 d1] 82)).alloc (.cells #[.slice A2 M cB, .int .i64 d2] 82)).alloc (.cells #[.slice none 0 0, .int .i64 0] 82)).frozen? ⟨w.heap.size + 2, 0, none⟩ = false := by simp [go_sem]
  have z1 : (((w.alloc (.cells #[.slice A L cA, .int .i64 d1] 82)).alloc (.cells #[.slice A2 M cB, .int .i64 d2] 82)).alloc (.cells #[.slice none 0 0, .int .i64 0] 82)).frozen? ⟨w.heap.size + 2, 1, none⟩ = false := by simp [go_sem]
  have BV : Hid (Below w.heap.size w (((w.alloc (.cells #[.slice A L cA, .int .i64 d1] 82)).alloc (.cells #[.slice A2 M cB, .int .i64 d2] 82)).alloc (.cells #[.slice none 0 0, .int .i64 0] 82))) := Lib.hid (by (repeat (first | with_reducible exact Below.refl _ _ | with_reducible assumption | with_reducible refine Below.alloc ?_ (by first | (simp; done) | (simp; omega) | omega) _ | with_reducible refine Below.setCell ?_ (by first | (simp; done) | (simp; omega) | omega) _ | with_reducible refine Below.drew ?_ | with_reducible refine below_drewN ?_ _)))
  generalize (((w.alloc (.cells #[.slice A L cA, .int .i64 d1] 82)).alloc (.cells #[.slice A2 M cB, .int .i64 d2] 82)).alloc (.cells #[.slice none 0 0, .int .i64 0] 82)) = v0 at *
  refine wp_region_mp [mpEq (.agg #[.slice A L cA, .int .i64 d1]), mpChk (True) (flE L xs d1), mpEq (.agg #[.slice A2 M cB, .int .i64 d2]), mpChk (True) (flE M ys d2), mpChks 2 (fun i => if i = 0 then flE L xs d1 else flE M ys d2), mpEq (.int .i64 (0)), mpEq (.int .i64 (0))] ra0 (by kernel_rfl) (by kernel_rfl) (by kernel_rfl) (
        allOps_cons (fun a' w' hb hs hd => rg_op fun K hK => by
      have e0 := (hs.get 2 (by kernel_rfl)).trans (show _ = .pointer (some ⟨w.heap.size, 0, none⟩) from rfl)
      have ec : ∀ v, a'.eval (.const v) = v := fun _ => rfl
      have c0 := keep hb a0
      have c1 := keep hb a1
      clear hs hd
      unfold Oper.wp
      generalize a'.eval = ρ at e0 ec ⊢
      simp [go_sem, e0, c0, c1]
      exact hK _ _ (Below.refl _ _) rfl) <|
        allOps_cons (fun a' w' hb hs hd => by
      exact rg_fn (φ := (mpChk (True) (flE L xs d1)).p) (vs := #[.agg #[.slice A L cA, .int .i64 d1]]) rfl (enters_of Try.func114 (by kernel_rfl) rfl) (by simp [(show a'.eval (.tmp 12) = .agg #[.slice A L cA, .int .i64 d1] from hd.get 0 12 (by kernel_rfl) (by kernel_rfl))]) ((filterCheck_chk A L cA xs d1 w' hL (HA.out.bel (belowT BV.out hb))))) <|
        allOps_cons (fun a' w' hb hs hd => rg_op fun K hK => by
      have e0 := (hs.get 3 (by kernel_rfl)).trans (show _ = .pointer (some ⟨w.heap.size + 1, 0, none⟩) from rfl)
      have ec : ∀ v, a'.eval (.const v) = v := fun _ => rfl
      have c0 := keep hb b0
      have c1 := keep hb b1
      clear hs hd
      unfold Oper.wp
      generalize a'.eval = ρ at e0 ec ⊢
      simp [go_sem, e0, c0, c1]
      exact hK _ _ (Below.refl _ _) rfl) <|
        allOps_cons (fun a' w' hb hs hd => by
      exact rg_fn (φ := (mpChk (True) (flE M ys d2)).p) (vs := #[.agg #[.slice A2 M cB, .int .i64 d2]]) rfl (enters_of Try.func114 (by kernel_rfl) rfl) (by simp [(show a'.eval (.tmp 14) = .agg #[.slice A2 M cB, .int .i64 d2] from hd.get 2 14 (by kernel_rfl) (by kernel_rfl))]) ((filterCheck_chk A2 M cB ys d2 w' hM (HB.out.bel (belowT BV.out hb))))) <|
        allOps_cons (fun a' w' hb hs hd => rg_op fun K hK => by
      have k0 : (mpChk (True) (flE L xs d1)).p (a'.eval (.tmp 13)) w' := hd.get 1 13 (by kernel_rfl) (by kernel_rfl)
      have k1 : (mpChk (True) (flE M ys d2)).p (a'.eval (.tmp 15)) w' := hd.get 3 15 (by kernel_rfl) (by kernel_rfl)
      clear hs hd
      unfold Oper.wp
      generalize a'.eval = ρ at k0 k1 ⊢
      obtain ⟨g0, f0, e0, h0⟩ := k0
      obtain ⟨g1, f1, e1, h1⟩ := k1
      simp [go_sem, e0, e1]
      have hx := (Below.refl w'.heap.size w').alloc (Nat.le_refl _) (.cells #[.func (.func g0) #[] f0, .func (.func g1) #[] f1] 121)
      refine hK _ _ hx ⟨_, rfl, fun i => if i = 0 then .func (.func g0) #[] f0 else .func (.func g1) #[] f1, fun i hi => ?_, fun i hi => ?_⟩
      · rcases (by omega : i = 0 ∨ i = 1) with rfl | rfl <;> simp [go_sem]
      · rcases (by omega : i = 0 ∨ i = 1) with rfl | rfl
        · exact Chk.imp (Chk.on (show Chk (True) (flE L xs d1) (.func (.func g0) #[] f0) w' from ⟨g0, f0, rfl, h0⟩) hx) (fun _ => trivial)
        · exact Chk.imp (Chk.on (show Chk (True) (flE M ys d2) (.func (.func g1) #[] f1) w' from ⟨g1, f1, rfl, h1⟩) hx) (fun _ => trivial)) <|
        allOps_cons (fun a' w' hb hs hd => by
      exact rg_fn (φ := (mpEq (.int .i64 (0))).p) (vs := #[a'.eval (.tmp 16)]) rfl (enters_of Try.func87 (by kernel_rfl) rfl) (by simp) ((first_chks (n := 2) (er := (fun i => if i = 0 then flE L xs d1 else flE M ys d2)) (by omega) (by omega) (hd.get 4 16 (by kernel_rfl) (by kernel_rfl))).mono (by rintro e w1 ⟨rfl, h1⟩; exact ⟨_, rfl, h1, congrArg (Value.int .i64) ((ferr_2 _ _).trans hE)⟩))) <|
        allOps_cons (fun a' w' hb hs hd => rg_op fun K hK => by
      have e0 := (show a'.eval (.tmp 17) = .int .i64 (0) from hd.get 5 17 (by kernel_rfl) (by kernel_rfl))
      have ec : ∀ v, a'.eval (.const v) = v := fun _ => rfl
      clear hs hd
      unfold Oper.wp
      generalize a'.eval = ρ at e0 ec ⊢
      simp [go_sem, e0]
      exact hK _ _ (Below.refl _ _) rfl) <| allOps_nil) (fun V v1 hv1 hall => ?_)
  have h6 : V 6 = .int .i64 (0) := hall.get 6 rfl
  clear hall
  simp only [ra0, maskPut, Nat.reduceAdd]
  rw [h6]
  clear h6
  have hRz := lt_of r0
  replace a0 := keep hv1 a0
  replace a1 := keep hv1 a1
  replace b0 := keep hv1 b0
  replace b1 := keep hv1 b1
  replace r0 := keep hv1 r0
  replace r1 := keep hv1 r1
  have hR := lt_of r0
  replace z0 := (hv1.frozen (p := ⟨w.heap.size + 2, 0, none⟩) (by first | exact hRz | exact hRz)).trans z0
  replace z1 := (hv1.frozen (p := ⟨w.heap.size + 2, 1, none⟩) (by first | exact hRz | exact hRz)).trans z1
  replace BV := Lib.hid (belowT BV.out hv1)
  clear hv1 hRz
  go_upto_region 4 with fail
  refine wp_region_last [mpEq (.pointer (some ⟨w.heap.size, 0, none⟩)), mpEq (.slice A L cA), mpEq (.int .i64 (L : Nat)), mpEq (.pointer (some ⟨w.heap.size + 1, 0, none⟩)), mpEq (.slice A2 M cB), mpEq (.int .i64 (M : Nat)), mpEq (.int .i64 (S : Int)), mpEq (.int .i64 (N : Int)), mpRow v1.heap.size N, mpEq (.pointer (some ⟨w.heap.size, 1, none⟩)), mpEq (.int .i64 d1), mpEq (.pointer (some ⟨w.heap.size + 1, 1, none⟩)), mpEq (.int .i64 d2), mpEq (.int .i64 (d1 * d2)), mpFV v1.heap.size N (d1 * d2), mpF0 v1.heap.size] 16 ra1 (by kernel_rfl) (by kernel_rfl) (by kernel_rfl) rfl (by kernel_rfl) (
        allOps_cons (fun _ a' w' hb hs hd => rg_op fun K hK => by
      have e0 := (hs.get 2 (by kernel_rfl)).trans (show _ = .pointer (some ⟨w.heap.size, 0, none⟩) from rfl)
      have ec : ∀ v, a'.eval (.const v) = v := fun _ => rfl
      clear hs hd
      unfold Oper.wp
      generalize a'.eval = ρ at e0 ec ⊢
      simp [go_sem, e0]
      exact hK _ _ (Below.refl _ _) rfl) <|
        allOps_cons (fun _ a' w' hb hs hd => rg_op fun K hK => by
      have e0 := (show a'.eval (.tmp 22) = .pointer (some ⟨w.heap.size, 0, none⟩) from hd.get 0 22 (by kernel_rfl) (by kernel_rfl))
      have ec : ∀ v, a'.eval (.const v) = v := fun _ => rfl
      have c0 := keep hb a0
      clear hs hd
      unfold Oper.wp
      generalize a'.eval = ρ at e0 ec ⊢
      simp [go_sem, e0, c0]
      exact hK _ _ (Below.refl _ _) rfl) <|
        allOps_cons (fun _ a' w' hb hs hd => rg_op fun K hK => by
      have e0 := (show a'.eval (.tmp 23) = .slice A L cA from hd.get 1 23 (by kernel_rfl) (by kernel_rfl))
      have ec : ∀ v, a'.eval (.const v) = v := fun _ => rfl
      clear hs hd
      unfold Oper.wp
      generalize a'.eval = ρ at e0 ec ⊢
      simp [go_sem, e0]
      exact hK _ _ (Below.refl _ _) rfl) <|
        allOps_cons (fun _ a' w' hb hs hd => rg_op fun K hK => by
      have e0 := (hs.get 3 (by kernel_rfl)).trans (show _ = .pointer (some ⟨w.heap.size + 1, 0, none⟩) from rfl)
      have ec : ∀ v, a'.eval (.const v) = v := fun _ => rfl
      clear hs hd
      unfold Oper.wp
      generalize a'.eval = ρ at e0 ec ⊢
      simp [go_sem, e0]
      exact hK _ _ (Below.refl _ _) rfl) <|
        allOps_cons (fun _ a' w' hb hs hd => rg_op fun K hK => by
      have e0 := (show a'.eval (.tmp 25) = .pointer (some ⟨w.heap.size + 1, 0, none⟩) from hd.get 3 25 (by kernel_rfl) (by kernel_rfl))
      have ec : ∀ v, a'.eval (.const v) = v := fun _ => rfl
      have c0 := keep hb b0
      clear hs hd
      unfold Oper.wp
      generalize a'.eval = ρ at e0 ec ⊢
      simp [go_sem, e0, c0]
      exact hK _ _ (Below.refl _ _) rfl) <|
        allOps_cons (fun _ a' w' hb hs hd => rg_op fun K hK => by
      have e0 := (show a'.eval (.tmp 26) = .slice A2 M cB from hd.get 4 26 (by kernel_rfl) (by kernel_rfl))
      have ec : ∀ v, a'.eval (.const v) = v := fun _ => rfl
      clear hs hd
      unfold Oper.wp
      generalize a'.eval = ρ at e0 ec ⊢
      simp [go_sem, e0]
      exact hK _ _ (Below.refl _ _) rfl) <|
        allOps_cons (fun _ a' w' hb hs hd => rg_op fun K hK => by
      have e0 := (show a'.eval (.tmp 24) = .int .i64 (L : Nat) from hd.get 2 24 (by kernel_rfl) (by kernel_rfl))
      have e1 := (show a'.eval (.tmp 27) = .int .i64 (M : Nat) from hd.get 5 27 (by kernel_rfl) (by kernel_rfl))
      have ec : ∀ v, a'.eval (.const v) = v := fun _ => rfl
      clear hs hd
      unfold Oper.wp
      generalize a'.eval = ρ at e0 e1 ec ⊢
      simp [go_sem, e0, e1, x1]
      exact hK _ _ (Below.refl _ _) rfl) <|
        allOps_cons (fun _ a' w' hb hs hd => rg_op fun K hK => by
      have e0 := (show a'.eval (.tmp 28) = .int .i64 (S : Int) from hd.get 6 28 (by kernel_rfl) (by kernel_rfl))
      have ec : ∀ v, a'.eval (.const v) = v := fun _ => rfl
      clear hs hd
      unfold Oper.wp
      generalize a'.eval = ρ at e0 ec ⊢
      simp [go_sem, e0, ec, x2]
      exact hK _ _ (Below.refl _ _) rfl) <|
        allOps_cons (fun _ a' w' hb hs hd => rg_op fun K hK => by
      have e0 : a'.eval (.tmp 29) = .int .i64 (N : Int) := (show a'.eval (.tmp 29) = .int .i64 (N : Int) from hd.get 7 29 (by kernel_rfl) (by kernel_rfl))
      have hz := hb.size
      clear hs hd
      exact op_make rfl e0 e0 (by omega) fun w1 h1 h2 => hK _ _ h2 ⟨_, rfl, hz, h1⟩) <|
        allOps_cons (fun _ a' w' hb hs hd => rg_op fun K hK => by
      have e0 := (hs.get 2 (by kernel_rfl)).trans (show _ = .pointer (some ⟨w.heap.size, 0, none⟩) from rfl)
      have ec : ∀ v, a'.eval (.const v) = v := fun _ => rfl
      clear hs hd
      unfold Oper.wp
      generalize a'.eval = ρ at e0 ec ⊢
      simp [go_sem, e0]
      exact hK _ _ (Below.refl _ _) rfl) <|
        allOps_cons (fun _ a' w' hb hs hd => rg_op fun K hK => by
      have e0 := (show a'.eval (.tmp 31) = .pointer (some ⟨w.heap.size, 1, none⟩) from hd.get 9 31 (by kernel_rfl) (by kernel_rfl))
      have ec : ∀ v, a'.eval (.const v) = v := fun _ => rfl
      have c0 := keep hb a1
      clear hs hd
      unfold Oper.wp
      generalize a'.eval = ρ at e0 ec ⊢
      simp [go_sem, e0, c0]
      exact hK _ _ (Below.refl _ _) rfl) <|
        allOps_cons (fun _ a' w' hb hs hd => rg_op fun K hK => by
      have e0 := (hs.get 3 (by kernel_rfl)).trans (show _ = .pointer (some ⟨w.heap.size + 1, 0, none⟩) from rfl)
      have ec : ∀ v, a'.eval (.const v) = v := fun _ => rfl
      clear hs hd
      unfold Oper.wp
      generalize a'.eval = ρ at e0 ec ⊢
      simp [go_sem, e0]
      exact hK _ _ (Below.refl _ _) rfl) <|
        allOps_cons (fun _ a' w' hb hs hd => rg_op fun K hK => by
      have e0 := (show a'.eval (.tmp 33) = .pointer (some ⟨w.heap.size + 1, 1, none⟩) from hd.get 11 33 (by kernel_rfl) (by kernel_rfl))
      have ec : ∀ v, a'.eval (.const v) = v := fun _ => rfl
      have c0 := keep hb b1
      clear hs hd
      unfold Oper.wp
      generalize a'.eval = ρ at e0 ec ⊢
      simp [go_sem, e0, c0]
      exact hK _ _ (Below.refl _ _) rfl) <|
        allOps_cons (fun _ a' w' hb hs hd => rg_op fun K hK => by
      have e0 := (show a'.eval (.tmp 32) = .int .i64 d1 from hd.get 10 32 (by kernel_rfl) (by kernel_rfl))
      have e1 := (show a'.eval (.tmp 34) = .int .i64 d2 from hd.get 12 34 (by kernel_rfl) (by kernel_rfl))
      have ec : ∀ v, a'.eval (.const v) = v := fun _ => rfl
      clear hs hd
      unfold Oper.wp
      generalize a'.eval = ρ at e0 e1 ec ⊢
      simp [go_sem, e0, e1, x3]
      exact hK _ _ (Below.refl _ _) rfl) <|
        allOps_cons (fun _ a' w' hb hs hd => rg_op fun K hK => by
      obtain ⟨G, e1, hG1, hG2⟩ := (show (mpRow v1.heap.size N).p (a'.eval (.tmp 30)) w' from hd.get 8 30 (by kernel_rfl) (by kernel_rfl))
      have e0 := (show a'.eval (.tmp 35) = .int .i64 (d1 * d2) from hd.get 13 35 (by kernel_rfl) (by kernel_rfl))
      clear hs hd
      unfold Oper.wp
      generalize a'.eval = ρ at e0 e1 ⊢
      simp [go_sem, e0, e1]
      exact hK _ _ (Below.refl _ _) ⟨G, rfl, hG1, hG2⟩) <|
        allOps_cons (fun _ a' w' hb hs hd => rg_op fun K hK => by
      have hz := hb.size
      clear hs hd
      unfold Oper.wp
      generalize a'.eval = ρ
      simp [go_sem]
      exact hK _ _ ((Below.refl _ _).alloc (Nat.le_refl _) _) ⟨_, rfl, hz, ⟨by simp [go_sem], by simp [go_sem]⟩, by simp [go_sem], by simp [go_sem]⟩) <| allOps_cons (fun h => absurd rfl h) <| allOps_nil) (fun V v2 hv2 hall K hK => ?_)
  have h7 : (mpF0 v1.heap.size).p (V 7) v2 := hall.get 15 rfl (by decide)
  have h36 : (mpFV v1.heap.size N (d1 * d2)).p (V 36) v2 := hall.get 14 rfl (by decide)
  clear hall
  obtain ⟨q, eq7, hBq, ⟨s0, s1⟩, fq0, fq1⟩ := h7
  obtain ⟨G, eG, hBG, hIG⟩ := h36
  have hGq : G ≠ q := by
    intro e
    subst e
    have := (hIG.2 0 (by omega)).1
    rw [s0] at this
    cases this
  refine op_stF rfl eq7 eG s0 s1 fq0 fq1 ?_
  refine hK _ _ ?_
  simp only [ra1, maskPut, Nat.reduceAdd]
  rw [eq7]
  have hv3 : Below v1.heap.size v1 ((v2.setCell ⟨q, 0, none⟩ (.slice (some ⟨G, 0, none⟩) N N)).setCell ⟨q, 1, none⟩ (.int .i64 (d1 * d2))) := (hv2.setCell hBq _).setCell hBq _
  have HI : Hid (IM ((v2.setCell ⟨q, 0, none⟩ (.slice (some ⟨G, 0, none⟩) N N)).setCell ⟨q, 1, none⟩ (.int .i64 (d1 * d2))) G N (fun _ => 0)) := Lib.hid ((hIG.far hGq _).far hGq _)
  have t0 : ((v2.setCell ⟨q, 0, none⟩ (.slice (some ⟨G, 0, none⟩) N N)).setCell ⟨q, 1, none⟩ (.int .i64 (d1 * d2))).cell? ⟨q, 0, none⟩ = some (.slice (some ⟨G, 0, none⟩) N N) := by simp [go_sem, s0]
  have t1 : ((v2.setCell ⟨q, 0, none⟩ (.slice (some ⟨G, 0, none⟩) N N)).setCell ⟨q, 1, none⟩ (.int .i64 (d1 * d2))).cell? ⟨q, 1, none⟩ = some (.int .i64 (d1 * d2)) := by simp [go_sem, s1]
  have HC : Hid (CFx w.heap.size q (.slice A L cA) (.slice A2 M cB) (.slice (some ⟨G, 0, none⟩) N N) d1 d2 (d1 * d2) ((v2.setCell ⟨q, 0, none⟩ (.slice (some ⟨G, 0, none⟩) N N)).setCell ⟨q, 1, none⟩ (.int .i64 (d1 * d2)))) := Lib.hid ⟨⟨keep hv3 a0, keep hv3 a1⟩, ⟨keep hv3 b0, keep hv3 b1⟩, ⟨t0, t1⟩, ⟨keep hv3 r0, keep hv3 r1⟩, (hv3.frozen (p := ⟨w.heap.size + 2, 0, none⟩) (lt_of r0)).trans z0, (hv3.frozen (p := ⟨w.heap.size + 2, 1, none⟩) (lt_of r1)).trans z1⟩
  have hGB : G ≠ w.heap.size ∧ G ≠ w.heap.size + 1 ∧ G ≠ w.heap.size + 2 ∧ G ≠ q := by have := lt_of r0; refine ⟨?_, ?_, ?_, hGq⟩ <;> omega
  have hGw : w.heap.size ≤ G := by have := lt_of r0; omega
  replace BV := Lib.hid (belowT BV.out hv3)
  clear hK hv2 hv3 hIG s0 s1 fq0 fq1 t0 t1 a0 a1 b0 b1 r0 r1 z0 z1 hBq hBG eG eq7 hR
  generalize ((v2.setCell ⟨q, 0, none⟩ (.slice (some ⟨G, 0, none⟩) N N)).setCell ⟨q, 1, none⟩ (.int .i64 (d1 * d2))) = v3 at *
  generalize hdd : d1 * d2 = dd at *
  have aa0 := HC.out.1.1
  go_wp2_with fail
  go_loopw [40] (fun s40 wr => ∃ k : Nat, k ≤ L ∧ s40 = .int .i64 k ∧ Hid (Below w.heap.size w wr) ∧ Hid (CFx w.heap.size q (.slice A L cA) (.slice A2 M cB) (.slice (some ⟨G, 0, none⟩) N N) d1 d2 dd wr) ∧ Hid (IM wr G N (cvK xs ys M k))) (fun i _ => L - (intOf i).toNat)
  case atStart => exact ⟨0, Nat.zero_le _, rfl, BV.out, HC.out, HI.out⟩
  case round =>
    obtain ⟨k, hk, rfl, BV, HC, HI⟩ := hrel
    clear aa0
    by_cases hlt : k < L
    · obtain ⟨bA, oA, rfl, hA2⟩ := HA.out (by omega)
      have x0 := keep BV.out (hA2 k hlt)
      have b0 := HC.out.2.1.1
      have g1 : (0 : Int) ≤ (k : Int) := by omega
      have g2 : (k : Int) < (L : Int) := by omega
      have hxk := HX.out k hlt
      have hbk := HCB.out k (by omega)
      have HXk := Lib.hid hxk
      have HBk := Lib.hid hbk
      clear hA2 hxk hbk
      obtain ⟨wo, rfl⟩ : ∃ wo : World, wo = wr := ⟨_, rfl⟩
      have HKs : Hid (cvK xs ys M (k + 1) = cvJ (cvK xs ys M k) (xs k) ys k M) := rfl
      generalize cvK xs ys M k = fk at *
      generalize xs k = x at *
      go_wp2_with fail
      go_loopw [48] (fun s48 wi => ∃ j : Nat, j ≤ M ∧ s48 = .int .i64 j ∧ Hid (Below w.heap.size w wi) ∧ Hid (CFx w.heap.size q (.slice (some ⟨bA, oA, none⟩) L cA) (.slice A2 M cB) (.slice (some ⟨G, 0, none⟩) N N) d1 d2 dd wi) ∧ Hid (IM wi G N (cvJ fk x ys k j))) (fun i _ => M - (intOf i).toNat)
      case atStart => exact ⟨0, Nat.zero_le _, rfl, BV.out, HC.out, HI.out⟩
      case round =>
        obtain ⟨j, hj, rfl, BV, HC, HI⟩ := hrel
        clear x0 b0
        by_cases hlj : j < M
        · obtain ⟨bB, oB, rfl, hB2⟩ := HB.out (by omega)
          have y0 := keep BV.out (hB2 j hlj)
          have q0 := HC.out.2.2.1.1
          have c0 := (HI.out.2 (k + j) (by omega)).1
          have f0 := (HI.out.2 (k + j) (by omega)).2
          have hyj := HY.out j hlj
          have hm := mbd (a := x) (b := ys j) (A := 100) (B := 100) HXk.out.1 HXk.out.2 hyj.1 hyj.2
          have hcb := cvJ_bd (k := k) HBk.out HXk.out.1 HXk.out.2 j (fun i hi => HY.out i (by omega)) (k + j)
          have u1 : IntKind.i64.wrap ((k : Int) + (j : Int)) = ((k + j : Nat) : Int) := by rw [IntWalk.i64_in _ (by omega)]; omega
          have u2 : IntKind.i64.wrap (x * ys j) = x * ys j := IntWalk.i64_in _ (by omega)
          have u3 : IntKind.i64.wrap (cvJ fk x ys k j (k + j) + x * ys j) = cvJ fk x ys k j (k + j) + x * ys j := IntWalk.i64_in _ (by omega)
          have g3 : (0 : Int) ≤ (j : Int) := by omega
          have g4 : (j : Int) < (M : Int) := by omega
          have g5 : (0 : Int) ≤ ((k + j : Nat) : Int) := by omega
          have g6 : ((k + j : Nat) : Int) < (N : Int) := by omega
          have HJs : Hid (∀ i, cvJ fk x ys k (j + 1) i = if i = k + j then cvJ fk x ys k j (k + j) + x * ys j else cvJ fk x ys k j i) := Lib.hid (fun _ => rfl)
          clear hB2 hyj hm hcb
          generalize ys j = yj at *
          generalize hcv : cvJ fk x ys k j (k + j) = cv at *
          go_wp2_with fail
          go_roundw
          case rel => exact ⟨j + 1, by omega, by go_num, BV.out.setCell hGw _, HC.out.set hGB, (HI.out.set (k := k + j) (by omega) _).same (fun i _ => (HJs.out i).symm)⟩
          case measure => simp [intOf]; omega
        · obtain rfl : j = M := by omega
          go_wp2_with fail
          go_roundw
          case rel => exact ⟨k + 1, by omega, by go_num, BV.out, HC.out, by rw [HKs.out]; exact HI.out⟩
          case measure => simp [intOf]; omega
    · obtain rfl : k = L := by omega
      have q0 := HC.out.2.2.1.1
      have q1 := HC.out.2.2.1.2
      have HCF2 := Lib.hid (HCF.out _ N _ dd _ HI.out.ia)
      rw [hgood] at HCF2
      have HIA := Lib.hid HI.out
      go_wp2_with (go_at_call 61; (with_reducible refine Calls.mono HCF2.out ?_); rintro e y1 ⟨rfl, hb1⟩; have HC1 := Lib.hid (HC.out.on hb1); have BV1 := Lib.hid (belowT BV.out hb1); have r0 := HC1.out.2.2.2.1.1; have r1 := HC1.out.2.2.2.1.2; have z0 := HC1.out.2.2.2.2.1; have z1 := HC1.out.2.2.2.2.2; have p0 := HC1.out.2.2.1.1; have p1 := HC1.out.2.2.1.2; have HI1 := Lib.hid (HIA.out.on hb1); clear hb1)
      refine bodyPost_ret (v := .tuple #[.agg #[.slice (some ⟨G, 0, none⟩) N N, .int .i64 dd], .int .i64 0]) (by simp [results, Try.results64, go_sem, *]) rfl ⟨G, by rw [hdd], by have Bq := BV1.out; (repeat (first | with_reducible exact Below.refl _ _ | with_reducible assumption | with_reducible refine Below.alloc ?_ (by first | (simp; done) | (simp; omega) | omega) _ | with_reducible refine Below.setCell ?_ (by first | (simp; done) | (simp; omega) | omega) _ | with_reducible refine Below.drew ?_ | with_reducible refine below_drewN ?_ _)), ?_⟩
      exact ((HI1.out.far (by show G ≠ w.heap.size + 2; exact hGB.2.2.1) _).far (by show G ≠ w.heap.size + 2; exact hGB.2.2.1) _).ia
end Go.Proofs.Ytpkacfgmojblbaa
