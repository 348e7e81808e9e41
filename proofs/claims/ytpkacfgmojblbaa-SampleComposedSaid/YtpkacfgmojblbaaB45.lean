/- Helpers: filters that are composed, in the reference. No condition but the hypotheses that each theorem names. -/
import Derived.Test.YtpkacfgmojblbaaB44
namespace Go.Proofs.Ytpkacfgmojblbaa
open Go.RowKit
attribute [local go_sem] old1 fro1 old2 fro2 old3 fro3 old4 fro4 old5 fro5 old6 fro6 old7 fro7 old8 fro8 old9 fro9 old10 fro10 old11 fro11 old12 fro12
def rb0 : List Bool := [false, false, false, false, false, true, false, false, true, true, true, true, true, true, true, true, true, true, true, true, true, true, true, false, false, false, false, false, false, false, false, false, false, false, false, false, false, false, false, false, false, false, false, false, false, false, false, false, false, false, false, false, false, false, false, false, false, false, false, false, false, false, false]
def rb1 : List Bool := [false, false, false, false, false, false, false, false, false, false, false, false, false, false, false, false, false, false, false, false, false, false, false, false, false, false, false, false, false, false, false, false, false, false, false, false, false, true, true, true, true, true, true, true, true, true, true, true, true, true, true, true, true, true, true, true, true, true, true, true, true, true, false]
theorem op_st1 {op : Oper} {a : Act} {w : World} {K : Act → World → Prop} {Q : Exit → Act → World → Prop} {x y : Operand} (ho : op.op = .store 3 x y) {q o : Nat} {u u0 : Int} (hx : a.eval x = .pointer (some ⟨q, o, none⟩)) (hy : a.eval y = .int .i64 u) (c0 : w.cell? ⟨q, o, none⟩ = some (.int .i64 u0)) (f0 : w.frozen? ⟨q, o, none⟩ = false)
    (h : K (a.put op.dst undef) (w.setCell ⟨q, o, none⟩ (.int .i64 u))) : op.wp Try.prog a w K Q := by
  unfold Oper.wp execOp
  simp only [ho, hx, hy]
  simp [go_sem, c0, f0]
  exact h
set_option maxRecDepth 100000 in
set_option maxHeartbeats 4000000 in
theorem composedR_any (A A2 : Option Addr) (L cA M cB : Nat) (xs ys : Nat → Int) (d1 d2 : Int) (hE : coE L xs d1 M ys d2 = 0) (w : World) (hA : IA w A L xs) (hB : IA w A2 M ys) :
    Calls Try.prog 69 #[.agg #[.slice A L cA, .int .i64 d1], .agg #[.slice A2 M cB, .int .i64 d2]] w fun e w' => ∃ G, e = .returned (.agg #[.slice (some ⟨G, 0, none⟩) (L + M - 1) (L + M - 1), .int .i64 (d1 * d2)]) ∧ Below w.heap.size w w' ∧ IA w' (some ⟨G, 0, none⟩) (L + M - 1) (cvK xs ys M L) := by
  obtain ⟨q1, q2⟩ := fs2_0 hE
  obtain ⟨⟨hL0, hL8⟩, ⟨d10, d11⟩, hx⟩ := fl_0 q1
  obtain ⟨⟨hM0, hM8⟩, ⟨d20, d21⟩, hy⟩ := fl_0 q2
  have hL : L ≤ 1000000000 := by omega
  have hM : M ≤ 1000000000 := by omega
  have HA := Lib.hid hA
  have HB := Lib.hid hB
  have HX := Lib.hid hx
  have HY := Lib.hid hy
  have HCB := Lib.hid (cvK_bd hx hy hM8)
  have hm := mbd (a := d1) (b := d2) (A := 100) (B := 100) (by omega) (by omega) (by omega) (by omega)
  obtain ⟨S, hS⟩ : ∃ S : Nat, L + M = S := ⟨_, rfl⟩
  obtain ⟨N, hN⟩ : ∃ N : Nat, L + M - 1 = N := ⟨_, rfl⟩
  have x1 : IntKind.i64.wrap ((L : Int) + (M : Int)) = (S : Int) := by rw [IntWalk.i64_in _ (by omega)]; omega
  have x2 : IntKind.i64.wrap ((S : Int) - 1) = (N : Int) := by rw [IntWalk.i64_in _ (by omega)]; omega
  have hN1 : 0 < N := by omega
  rw [hN]
  have x3 : IntKind.i64.wrap (d1 * d2) = d1 * d2 := IntWalk.i64_in _ (by omega)
  clear hA hB q1 q2 hx hy hm d10 d11 d20 d21
  go_enter Try.func69, Try.ntmps69
  go_upto_region 1 with fail
  have a0 : (((w.alloc (.cells #[.slice A L cA, .int .i64 d1] 82)).alloc (.cells #[.slice A2 M cB, .int .i64 d2] 82)).alloc (.cells #[.slice none 0 0, .int .i64 0] 82)).cell? ⟨w.heap.size, 0, none⟩ = some (.slice A L cA) := by simp [go_sem]
  have a1 : (((w.alloc (.cells #[.slice A L cA, .int .i64 d1] 82)).alloc (.cells #[.slice A2 M cB, .int .i64 d2] 82)).alloc (.cells #[.slice none 0 0, .int .i64 0] 82)).cell? ⟨w.heap.size, 1, none⟩ = some (.int .i64 d1) := by simp [go_sem]
  have b0 : (((w.alloc (.cells #[.slice A L cA, .int .i64 d1] 82)).alloc (.cells #[.slice A2 M cB, .int .i64 d2] 82)).alloc (.cells #[.slice none 0 0, .int .i64 0] 82)).cell? ⟨w.heap.size + 1, 0, none⟩ = some (.slice A2 M cB) := by simp [go_sem]
  have b1 : (((w.alloc (.cells #[.slice A L cA, .int .i64 d1] 82)).alloc (.cells #[.slice A2 M cB, .int .i64 d2] 82)).alloc (.cells #[.slice none 0 0, .int .i64 0] 82)).cell? ⟨w.heap.size + 1, 1, none⟩ = some (.int .i64 d2) := by simp [go_sem]
  have r0 : (((w.alloc (.cells #[.slice A L cA, .int .i64 d1] 82)).alloc (.cells #[.slice A2 M cB, .int .i64 d2] 82)).alloc (.cells #[.slice none 0 0, .int .i64 0] 82)).cell? ⟨w.heap.size + 2, 0, none⟩ = some (.slice none 0 0) := by simp [go_sem]
  have r1 : (((w.alloc (.cells #[.slice A L cA, .int .i64 d1] 82)).alloc (.cells #[.slice A2 M cB, .int .i64 d2] 82)).alloc (.cells #[.slice none 0 0, .int .i64 0] 82)).cell? ⟨w.heap.size + 2, 1, none⟩ = some (.int .i64 0) := by simp [go_sem]
  have z0 : (((w.alloc (.cells #[.slice A L cA, .int .i64 d1] 82)).alloc (.cells #[.slice A2 M cB, .int .i64 d2] 82)).alloc (.cells #[.slice none 0 0, .int .i64 0] 82)).frozen? ⟨w.heap.size + 2, 0, none⟩ = false := by simp [go_sem]
  have z1 : (((w.alloc (.cells #[.slice A L cA, .int .i64 d1] 82)).alloc (.cells #[.slice A2 M cB, .int .i64 d2] 82)).alloc (.cells #[.slice none 0 0, .int .i64 0] 82)).frozen? ⟨w.heap.size + 2, 1, none⟩ = false := by simp [go_sem]
  have BV : Hid (Below w.heap.size w (((w.alloc (.cells #[.slice A L cA, .int .i64 d1] 82)).alloc (.cells #[.slice A2 M cB, .int .i64 d2] 82)).alloc (.cells #[.slice none 0 0, .int .i64 0] 82))) := Lib.hid (by (repeat (first | with_reducible exact Below.refl _ _ | with_reducible assumption | with_reducible refine Below.alloc ?_ (by first | (simp; done) | (simp; omega) | omega) _ | with_reducible refine Below.setCell ?_ (by first | (simp; done) | (simp; omega) | omega) _ | with_reducible refine Below.drew ?_ | with_reducible refine below_drewN ?_ _)))
  generalize (((w.alloc (.cells #[.slice A L cA, .int .i64 d1] 82)).alloc (.cells #[.slice A2 M cB, .int .i64 d2] 82)).alloc (.cells #[.slice none 0 0, .int .i64 0] 82)) = v1 at *
  have hR := lt_of r0
  refine wp_region_last [mpEq (.pointer (some ⟨w.heap.size, 0, none⟩)), mpEq (.slice A L cA), mpEq (.int .i64 (L : Nat)), mpEq (.pointer (some ⟨w.heap.size + 1, 0, none⟩)), mpEq (.slice A2 M cB), mpEq (.int .i64 (M : Nat)), mpEq (.int .i64 (S : Int)), mpEq (.int .i64 (N : Int)), mpRow v1.heap.size N, mpEq (.pointer (some ⟨w.heap.size, 1, none⟩)), mpEq (.int .i64 d1), mpEq (.pointer (some ⟨w.heap.size + 1, 1, none⟩)), mpEq (.int .i64 d2), mpEq (.int .i64 (d1 * d2)), mpFV v1.heap.size N (d1 * d2), mpF0 v1.heap.size] 16 rb0 (by kernel_rfl) (by kernel_rfl) (by kernel_rfl) rfl (by kernel_rfl) (
        allOps_cons (fun _ a' w' hb hs hd => rg_op fun K hK => by
      have e0 := (hs.get 2 (by kernel_rfl)).trans (show _ = .pointer (some ⟨w.heap.size, 0, none⟩) from rfl)
      have ec : ∀ v, a'.eval (.const v) = v := fun _ => rfl
      clear hs hd
      unfold Oper.wp
      generalize a'.eval = ρ at e0 ec ⊢
      simp [go_sem, e0]
      exact hK _ _ (Below.refl _ _) rfl) <|
        allOps_cons (fun _ a' w' hb hs hd => rg_op fun K hK => by
      have e0 := (show a'.eval (.tmp 8) = .pointer (some ⟨w.heap.size, 0, none⟩) from hd.get 0 8 (by kernel_rfl) (by kernel_rfl))
      have ec : ∀ v, a'.eval (.const v) = v := fun _ => rfl
      have c0 := keep hb a0
      clear hs hd
      unfold Oper.wp
      generalize a'.eval = ρ at e0 ec ⊢
      simp [go_sem, e0, c0]
      exact hK _ _ (Below.refl _ _) rfl) <|
        allOps_cons (fun _ a' w' hb hs hd => rg_op fun K hK => by
      have e0 := (show a'.eval (.tmp 9) = .slice A L cA from hd.get 1 9 (by kernel_rfl) (by kernel_rfl))
      have ec : ∀ v, a'.eval (.const v) = v := fun _ => rfl
      clear hs hd
      unfold Oper.wp
      generalize a'.eval = ρ at e0 ec ⊢
      simp [go_sem, e0]
      exact hK _ _ (Below.refl _ _) rfl) <|
        allOps_cons (fun _ a' w' hb hs hd => rg_op fun K hK => by
      have e0 := (hs.get 3 (by kernel_rfl)).trans (show _ = .pointer (some ⟨w.heap.size + 1, 0, none⟩) from rfl)
      have ec : ∀ v, a'.eval (.const v) = v := fun _ => rfl
      clear hs hd
      unfold Oper.wp
      generalize a'.eval = ρ at e0 ec ⊢
      simp [go_sem, e0]
      exact hK _ _ (Below.refl _ _) rfl) <|
        allOps_cons (fun _ a' w' hb hs hd => rg_op fun K hK => by
      have e0 := (show a'.eval (.tmp 11) = .pointer (some ⟨w.heap.size + 1, 0, none⟩) from hd.get 3 11 (by kernel_rfl) (by kernel_rfl))
      have ec : ∀ v, a'.eval (.const v) = v := fun _ => rfl
      have c0 := keep hb b0
      clear hs hd
      unfold Oper.wp
      generalize a'.eval = ρ at e0 ec ⊢
      simp [go_sem, e0, c0]
      exact hK _ _ (Below.refl _ _) rfl) <|
        allOps_cons (fun _ a' w' hb hs hd => rg_op fun K hK => by
      have e0 := (show a'.eval (.tmp 12) = .slice A2 M cB from hd.get 4 12 (by kernel_rfl) (by kernel_rfl))
      have ec : ∀ v, a'.eval (.const v) = v := fun _ => rfl
      clear hs hd
      unfold Oper.wp
      generalize a'.eval = ρ at e0 ec ⊢
      simp [go_sem, e0]
      exact hK _ _ (Below.refl _ _) rfl) <|
        allOps_cons (fun _ a' w' hb hs hd => rg_op fun K hK => by
      have e0 := (show a'.eval (.tmp 10) = .int .i64 (L : Nat) from hd.get 2 10 (by kernel_rfl) (by kernel_rfl))
      have e1 := (show a'.eval (.tmp 13) = .int .i64 (M : Nat) from hd.get 5 13 (by kernel_rfl) (by kernel_rfl))
      have ec : ∀ v, a'.eval (.const v) = v := fun _ => rfl
      clear hs hd
      unfold Oper.wp
      generalize a'.eval = ρ at e0 e1 ec ⊢
      simp [go_sem, e0, e1, x1]
      exact hK _ _ (Below.refl _ _) rfl) <|
        allOps_cons (fun _ a' w' hb hs hd => rg_op fun K hK => by
      have e0 := (show a'.eval (.tmp 14) = .int .i64 (S : Int) from hd.get 6 14 (by kernel_rfl) (by kernel_rfl))
      have ec : ∀ v, a'.eval (.const v) = v := fun _ => rfl
      clear hs hd
      unfold Oper.wp
      generalize a'.eval = ρ at e0 ec ⊢
      simp [go_sem, e0, ec, x2]
      exact hK _ _ (Below.refl _ _) rfl) <|
        allOps_cons (fun _ a' w' hb hs hd => rg_op fun K hK => by
      have e0 : a'.eval (.tmp 15) = .int .i64 (N : Int) := (show a'.eval (.tmp 15) = .int .i64 (N : Int) from hd.get 7 15 (by kernel_rfl) (by kernel_rfl))
      have hz := hb.size
      clear hs hd
      exact op_make rfl e0 e0 (by omega) fun w1 h1 h2 => hK _ _ h2 ⟨_, rfl, hz, h1⟩) <|
        allOps_cons (fun _ a' w' hb hs hd => rg_op fun K hK => by
      have e0 := (hs.get 2 (by kernel_rfl)).trans (show _ = .pointer (some ⟨w.heap.size, 0, none⟩) from rfl)
      have ec : ∀ v, a'.eval (.const v) = v := fun _ => rfl
      clear hs hd
      unfold Oper.wp
      generalize a'.eval = ρ at e0 ec ⊢
      simp [go_sem, e0]
      exact hK _ _ (Below.refl _ _) rfl) <|
        allOps_cons (fun _ a' w' hb hs hd => rg_op fun K hK => by
      have e0 := (show a'.eval (.tmp 17) = .pointer (some ⟨w.heap.size, 1, none⟩) from hd.get 9 17 (by kernel_rfl) (by kernel_rfl))
      have ec : ∀ v, a'.eval (.const v) = v := fun _ => rfl
      have c0 := keep hb a1
      clear hs hd
      unfold Oper.wp
      generalize a'.eval = ρ at e0 ec ⊢
      simp [go_sem, e0, c0]
      exact hK _ _ (Below.refl _ _) rfl) <|
        allOps_cons (fun _ a' w' hb hs hd => rg_op fun K hK => by
      have e0 := (hs.get 3 (by kernel_rfl)).trans (show _ = .pointer (some ⟨w.heap.size + 1, 0, none⟩) from rfl)
      have ec : ∀ v, a'.eval (.const v) = v := fun _ => rfl
      clear hs hd
      unfold Oper.wp
      generalize a'.eval = ρ at e0 ec ⊢
      simp [go_sem, e0]
      exact hK _ _ (Below.refl _ _) rfl) <|
        allOps_cons (fun _ a' w' hb hs hd => rg_op fun K hK => by
      have e0 := (show a'.eval (.tmp 19) = .pointer (some ⟨w.heap.size + 1, 1, none⟩) from hd.get 11 19 (by kernel_rfl) (by kernel_rfl))
      have ec : ∀ v, a'.eval (.const v) = v := fun _ => rfl
      have c0 := keep hb b1
      clear hs hd
      unfold Oper.wp
      generalize a'.eval = ρ at e0 ec ⊢
      simp [go_sem, e0, c0]
      exact hK _ _ (Below.refl _ _) rfl) <|
        allOps_cons (fun _ a' w' hb hs hd => rg_op fun K hK => by
      have e0 := (show a'.eval (.tmp 18) = .int .i64 d1 from hd.get 10 18 (by kernel_rfl) (by kernel_rfl))
      have e1 := (show a'.eval (.tmp 20) = .int .i64 d2 from hd.get 12 20 (by kernel_rfl) (by kernel_rfl))
      have ec : ∀ v, a'.eval (.const v) = v := fun _ => rfl
      clear hs hd
      unfold Oper.wp
      generalize a'.eval = ρ at e0 e1 ec ⊢
      simp [go_sem, e0, e1, x3]
      exact hK _ _ (Below.refl _ _) rfl) <|
        allOps_cons (fun _ a' w' hb hs hd => rg_op fun K hK => by
      obtain ⟨G, e1, hG1, hG2⟩ := (show (mpRow v1.heap.size N).p (a'.eval (.tmp 16)) w' from hd.get 8 16 (by kernel_rfl) (by kernel_rfl))
      have e0 := (show a'.eval (.tmp 21) = .int .i64 (d1 * d2) from hd.get 13 21 (by kernel_rfl) (by kernel_rfl))
      clear hs hd
      unfold Oper.wp
      generalize a'.eval = ρ at e0 e1 ⊢
      simp [go_sem, e0, e1]
      exact hK _ _ (Below.refl _ _) ⟨G, rfl, hG1, hG2⟩) <|
        allOps_cons (fun _ a' w' hb hs hd => rg_op fun K hK => by
      have hz := hb.size
      clear hs hd
      unfold Oper.wp
      generalize a'.eval = ρ
      simp [go_sem]
      exact hK _ _ ((Below.refl _ _).alloc (Nat.le_refl _) _) ⟨_, rfl, hz, ⟨by simp [go_sem], by simp [go_sem]⟩, by simp [go_sem], by simp [go_sem]⟩) <| allOps_cons (fun h => absurd rfl h) <| allOps_nil) (fun V v2 hv2 hall K hK => ?_)
  have h7 : (mpF0 v1.heap.size).p (V 5) v2 := hall.get 15 rfl (by decide)
  have h36 : (mpFV v1.heap.size N (d1 * d2)).p (V 22) v2 := hall.get 14 rfl (by decide)
  clear hall
  obtain ⟨q, eq7, hBq, ⟨s0, s1⟩, fq0, fq1⟩ := h7
  obtain ⟨G, eG, hBG, hIG⟩ := h36
  have hGq : G ≠ q := by
    intro e
    subst e
    have := (hIG.2 0 (by omega)).1
    rw [s0] at this
    cases this
  refine op_stF rfl eq7 eG s0 s1 fq0 fq1 ?_
  refine hK _ _ ?_
  simp only [rb0, maskPut, Nat.reduceAdd]
  rw [eq7]
  have hv3 : Below v1.heap.size v1 ((v2.setCell ⟨q, 0, none⟩ (.slice (some ⟨G, 0, none⟩) N N)).setCell ⟨q, 1, none⟩ (.int .i64 (d1 * d2))) := (hv2.setCell hBq _).setCell hBq _
  have HI : Hid (IM ((v2.setCell ⟨q, 0, none⟩ (.slice (some ⟨G, 0, none⟩) N N)).setCell ⟨q, 1, none⟩ (.int .i64 (d1 * d2))) G N (fun _ => 0)) := Lib.hid ((hIG.far hGq _).far hGq _)
  have t0 : ((v2.setCell ⟨q, 0, none⟩ (.slice (some ⟨G, 0, none⟩) N N)).setCell ⟨q, 1, none⟩ (.int .i64 (d1 * d2))).cell? ⟨q, 0, none⟩ = some (.slice (some ⟨G, 0, none⟩) N N) := by simp [go_sem, s0]
  have t1 : ((v2.setCell ⟨q, 0, none⟩ (.slice (some ⟨G, 0, none⟩) N N)).setCell ⟨q, 1, none⟩ (.int .i64 (d1 * d2))).cell? ⟨q, 1, none⟩ = some (.int .i64 (d1 * d2)) := by simp [go_sem, s1]
  have HC : Hid (CFx w.heap.size q (.slice A L cA) (.slice A2 M cB) (.slice (some ⟨G, 0, none⟩) N N) d1 d2 (d1 * d2) ((v2.setCell ⟨q, 0, none⟩ (.slice (some ⟨G, 0, none⟩) N N)).setCell ⟨q, 1, none⟩ (.int .i64 (d1 * d2)))) := Lib.hid ⟨⟨keep hv3 a0, keep hv3 a1⟩, ⟨keep hv3 b0, keep hv3 b1⟩, ⟨t0, t1⟩, ⟨keep hv3 r0, keep hv3 r1⟩, (hv3.frozen (p := ⟨w.heap.size + 2, 0, none⟩) (lt_of r0)).trans z0, (hv3.frozen (p := ⟨w.heap.size + 2, 1, none⟩) (lt_of r1)).trans z1⟩
  have hGB : G ≠ w.heap.size ∧ G ≠ w.heap.size + 1 ∧ G ≠ w.heap.size + 2 ∧ G ≠ q := by have := lt_of r0; refine ⟨?_, ?_, ?_, hGq⟩ <;> omega
  have hGw : w.heap.size ≤ G := by have := lt_of r0; omega
  replace BV := Lib.hid (belowT BV.out hv3)
  clear hK hv2 hv3 hIG s0 s1 fq0 fq1 t0 t1 a0 a1 b0 b1 r0 r1 z0 z1 hBq hBG eG eq7 hR
  generalize ((v2.setCell ⟨q, 0, none⟩ (.slice (some ⟨G, 0, none⟩) N N)).setCell ⟨q, 1, none⟩ (.int .i64 (d1 * d2))) = v3 at *
  generalize hdd : d1 * d2 = dd at *
  have aa0 := HC.out.1.1
  go_wp2_with fail
  go_loopw [6] (fun s6 wr => ∃ k : Nat, k ≤ L ∧ s6 = .int .i64 k ∧ Hid (Below w.heap.size w wr) ∧ Hid (CFx w.heap.size q (.slice A L cA) (.slice A2 M cB) (.slice (some ⟨G, 0, none⟩) N N) d1 d2 dd wr) ∧ Hid (IM wr G N (cvK xs ys M k))) (fun i _ => L - (intOf i).toNat)
  case atStart => exact ⟨0, Nat.zero_le _, rfl, BV.out, HC.out, HI.out⟩
  case round =>
    obtain ⟨k, hk, rfl, BV, HC, HI⟩ := hrel
    clear aa0
    have a0 := HC.out.1.1
    by_cases hlt : k < L
    · obtain ⟨bA, oA, rfl, hA2⟩ := HA.out (by omega)
      have x0 := keep BV.out (hA2 k hlt)
      have g1 : (0 : Int) ≤ (k : Int) := by omega
      have g2 : (k : Int) < (L : Int) := by omega
      have hxk := HX.out k hlt
      have hbk := HCB.out k (by omega)
      have HXk := Lib.hid hxk
      have HBk := Lib.hid hbk
      have hA2b := hA2
      clear hA2 hxk hbk
      obtain ⟨wo, rfl⟩ : ∃ wo : World, wo = wr := ⟨_, rfl⟩
      have HKs : Hid (cvK xs ys M (k + 1) = cvJ (cvK xs ys M k) (xs k) ys k M) := rfl
      generalize cvK xs ys M k = fk at *
      have hA3 := Lib.hid hA2b
      generalize hXx : xs k = x at *
      go_wp2_with fail
      go_loopw [7] (fun s7 wi => ∃ j : Nat, j ≤ M ∧ s7 = .int .i64 j ∧ Hid (Below w.heap.size w wi) ∧ Hid (CFx w.heap.size q (.slice (some ⟨bA, oA, none⟩) L cA) (.slice A2 M cB) (.slice (some ⟨G, 0, none⟩) N N) d1 d2 dd wi) ∧ Hid (IM wi G N (cvJ fk x ys k j))) (fun i _ => M - (intOf i).toNat)
      case atStart => exact ⟨0, Nat.zero_le _, rfl, BV.out, HC.out, HI.out⟩
      case round =>
        obtain ⟨j, hj, rfl, BV, HC, HI⟩ := hrel
        clear x0 a0
        have b0 := HC.out.2.1.1
        by_cases hlj : j < M
        · obtain ⟨bB, oB, rfl, hB2⟩ := HB.out (by omega)
          have y0 := keep BV.out (hB2 j hlj)
          have q0 := HC.out.2.2.1.1
          have c0 := (HI.out.2 (k + j) (by omega)).1
          have f0 := (HI.out.2 (k + j) (by omega)).2
          have hyj := HY.out j hlj
          have hm := mbd (a := x) (b := ys j) (A := 100) (B := 100) HXk.out.1 HXk.out.2 hyj.1 hyj.2
          have hcb := cvJ_bd (k := k) HBk.out HXk.out.1 HXk.out.2 j (fun i hi => HY.out i (by omega)) (k + j)
          obtain ⟨i9, hi9⟩ : ∃ i9, k + j = i9 := ⟨_, rfl⟩
          have u1 : IntKind.i64.wrap ((k : Int) + (j : Int)) = (i9 : Int) := by rw [IntWalk.i64_in _ (by omega)]; omega
          have u2 : IntKind.i64.wrap (x * ys j) = x * ys j := IntWalk.i64_in _ (by omega)
          have u3 : IntKind.i64.wrap (cvJ fk x ys k j (k + j) + x * ys j) = cvJ fk x ys k j (k + j) + x * ys j := IntWalk.i64_in _ (by omega)
          have g3 : (0 : Int) ≤ (j : Int) := by omega
          have g4 : (j : Int) < (M : Int) := by omega
          have g5 : (0 : Int) ≤ (i9 : Int) := by omega
          have g6 : (i9 : Int) < (N : Int) := by omega
          have x0 := keep (show Below w.heap.size w wr from BV.out) (hA3.out k hlt)
          have a0 := HC.out.1.1
          have HJs : Hid (∀ i, cvJ fk x ys k (j + 1) i = if i = k + j then cvJ fk x ys k j (k + j) + x * ys j else cvJ fk x ys k j i) := Lib.hid (fun _ => rfl)
          have hi9N : i9 < N := by omega
          clear hB2 hyj hm hcb
          rw [hi9] at c0 f0 u3 HJs
          rw [hXx] at x0
          generalize ys j = yj at *
          generalize hcv : cvJ fk x ys k j i9 = cv at *
          clear hi9
          go_wp2_with fail
          refine wp_region_last [mpEq (.pointer (some ⟨q, 0, none⟩)), mpEq (.slice (some ⟨G, 0, none⟩) N N), mpEq (.int .i64 k), mpEq (.int .i64 j), mpEq (.int .i64 (i9 : Int)), mpEq (.pointer (some ⟨q, 0, none⟩)), mpEq (.slice (some ⟨G, 0, none⟩) N N), mpEq (.int .i64 k), mpEq (.int .i64 j), mpEq (.int .i64 (i9 : Int)), mpEq (.pointer (some ⟨G, i9, none⟩)), mpEq (.int .i64 cv), mpEq (.pointer (some ⟨w.heap.size, 0, none⟩)), mpEq (.slice (some ⟨bA, oA, none⟩) L cA), mpEq (.int .i64 k), mpEq (.pointer (some ⟨bA, oA + k, none⟩)), mpEq (.int .i64 x), mpEq (.pointer (some ⟨w.heap.size + 1, 0, none⟩)), mpEq (.slice (some ⟨bB, oB, none⟩) M cB), mpEq (.int .i64 j), mpEq (.pointer (some ⟨bB, oB + j, none⟩)), mpEq (.int .i64 yj), mpEq (.int .i64 (x * yj)), mpEq (.int .i64 (cv + x * yj)), mpEq (.pointer (some ⟨G, i9, none⟩))] 25 rb1 (by kernel_rfl) (by kernel_rfl) (by kernel_rfl) rfl (by kernel_rfl) (
                allOps_cons (fun _ a' w' hb hs hd => rg_op fun K hK => by
              have e0 := (hs.get 5 (by kernel_rfl)).trans (show _ = .pointer (some ⟨q, 0, none⟩) from rfl)
              have ec : ∀ v, a'.eval (.const v) = v := fun _ => rfl
              clear hs hd
              unfold Oper.wp
              generalize a'.eval = ρ at e0 ec ⊢
              simp [go_sem, e0]
              exact hK _ _ (Below.refl _ _) rfl) <|
                allOps_cons (fun _ a' w' hb hs hd => rg_op fun K hK => by
              have e0 := (show a'.eval (.tmp 37) = .pointer (some ⟨q, 0, none⟩) from hd.get 0 37 (by kernel_rfl) (by kernel_rfl))
              have ec : ∀ v, a'.eval (.const v) = v := fun _ => rfl
              have c0 := keep hb q0
              clear hs hd
              unfold Oper.wp
              generalize a'.eval = ρ at e0 ec ⊢
              simp [go_sem, e0, c0]
              exact hK _ _ (Below.refl _ _) rfl) <|
                allOps_cons (fun _ a' w' hb hs hd => rg_op fun K hK => by
              have e0 := (hs.get 6 (by kernel_rfl)).trans (show _ = .int .i64 k from rfl)
              have ec : ∀ v, a'.eval (.const v) = v := fun _ => rfl
              clear hs hd
              unfold Oper.wp
              generalize a'.eval = ρ at e0 ec ⊢
              simp [go_sem, e0]
              exact hK _ _ (Below.refl _ _) rfl) <|
                allOps_cons (fun _ a' w' hb hs hd => rg_op fun K hK => by
              have e0 := (hs.get 7 (by kernel_rfl)).trans (show _ = .int .i64 j from rfl)
              have ec : ∀ v, a'.eval (.const v) = v := fun _ => rfl
              clear hs hd
              unfold Oper.wp
              generalize a'.eval = ρ at e0 ec ⊢
              simp [go_sem, e0]
              exact hK _ _ (Below.refl _ _) rfl) <|
                allOps_cons (fun _ a' w' hb hs hd => rg_op fun K hK => by
              have e0 := (show a'.eval (.tmp 39) = .int .i64 k from hd.get 2 39 (by kernel_rfl) (by kernel_rfl))
              have e1 := (show a'.eval (.tmp 40) = .int .i64 j from hd.get 3 40 (by kernel_rfl) (by kernel_rfl))
              have ec : ∀ v, a'.eval (.const v) = v := fun _ => rfl
              clear hs hd
              unfold Oper.wp
              generalize a'.eval = ρ at e0 e1 ec ⊢
              simp [go_sem, e0, e1, u1]
              exact hK _ _ (Below.refl _ _) rfl) <|
                allOps_cons (fun _ a' w' hb hs hd => rg_op fun K hK => by
              have e0 := (hs.get 5 (by kernel_rfl)).trans (show _ = .pointer (some ⟨q, 0, none⟩) from rfl)
              have ec : ∀ v, a'.eval (.const v) = v := fun _ => rfl
              clear hs hd
              unfold Oper.wp
              generalize a'.eval = ρ at e0 ec ⊢
              simp [go_sem, e0]
              exact hK _ _ (Below.refl _ _) rfl) <|
                allOps_cons (fun _ a' w' hb hs hd => rg_op fun K hK => by
              have e0 := (show a'.eval (.tmp 42) = .pointer (some ⟨q, 0, none⟩) from hd.get 5 42 (by kernel_rfl) (by kernel_rfl))
              have ec : ∀ v, a'.eval (.const v) = v := fun _ => rfl
              have c0 := keep hb q0
              clear hs hd
              unfold Oper.wp
              generalize a'.eval = ρ at e0 ec ⊢
              simp [go_sem, e0, c0]
              exact hK _ _ (Below.refl _ _) rfl) <|
                allOps_cons (fun _ a' w' hb hs hd => rg_op fun K hK => by
              have e0 := (hs.get 6 (by kernel_rfl)).trans (show _ = .int .i64 k from rfl)
              have ec : ∀ v, a'.eval (.const v) = v := fun _ => rfl
              clear hs hd
              unfold Oper.wp
              generalize a'.eval = ρ at e0 ec ⊢
              simp [go_sem, e0]
              exact hK _ _ (Below.refl _ _) rfl) <|
                allOps_cons (fun _ a' w' hb hs hd => rg_op fun K hK => by
              have e0 := (hs.get 7 (by kernel_rfl)).trans (show _ = .int .i64 j from rfl)
              have ec : ∀ v, a'.eval (.const v) = v := fun _ => rfl
              clear hs hd
              unfold Oper.wp
              generalize a'.eval = ρ at e0 ec ⊢
              simp [go_sem, e0]
              exact hK _ _ (Below.refl _ _) rfl) <|
                allOps_cons (fun _ a' w' hb hs hd => rg_op fun K hK => by
              have e0 := (show a'.eval (.tmp 44) = .int .i64 k from hd.get 7 44 (by kernel_rfl) (by kernel_rfl))
              have e1 := (show a'.eval (.tmp 45) = .int .i64 j from hd.get 8 45 (by kernel_rfl) (by kernel_rfl))
              have ec : ∀ v, a'.eval (.const v) = v := fun _ => rfl
              clear hs hd
              unfold Oper.wp
              generalize a'.eval = ρ at e0 e1 ec ⊢
              simp [go_sem, e0, e1, u1]
              exact hK _ _ (Below.refl _ _) rfl) <|
                allOps_cons (fun _ a' w' hb hs hd => rg_op fun K hK => by
              have e0 := (show a'.eval (.tmp 43) = .slice (some ⟨G, 0, none⟩) N N from hd.get 6 43 (by kernel_rfl) (by kernel_rfl))
              have e1 := (show a'.eval (.tmp 46) = .int .i64 (i9 : Int) from hd.get 9 46 (by kernel_rfl) (by kernel_rfl))
              have ec : ∀ v, a'.eval (.const v) = v := fun _ => rfl
              clear hs hd
              unfold Oper.wp
              generalize a'.eval = ρ at e0 e1 ec ⊢
              simp [go_sem, e0, e1, g5, g6]
              exact hK _ _ (Below.refl _ _) rfl) <|
                allOps_cons (fun _ a' w' hb hs hd => rg_op fun K hK => by
              have e0 := (show a'.eval (.tmp 47) = .pointer (some ⟨G, i9, none⟩) from hd.get 10 47 (by kernel_rfl) (by kernel_rfl))
              have ec : ∀ v, a'.eval (.const v) = v := fun _ => rfl
              have c0 := keep hb c0
              clear hs hd
              unfold Oper.wp
              generalize a'.eval = ρ at e0 ec ⊢
              simp [go_sem, e0, c0]
              exact hK _ _ (Below.refl _ _) rfl) <|
                allOps_cons (fun _ a' w' hb hs hd => rg_op fun K hK => by
              have e0 := (hs.get 2 (by kernel_rfl)).trans (show _ = .pointer (some ⟨w.heap.size, 0, none⟩) from rfl)
              have ec : ∀ v, a'.eval (.const v) = v := fun _ => rfl
              clear hs hd
              unfold Oper.wp
              generalize a'.eval = ρ at e0 ec ⊢
              simp [go_sem, e0]
              exact hK _ _ (Below.refl _ _) rfl) <|
                allOps_cons (fun _ a' w' hb hs hd => rg_op fun K hK => by
              have e0 := (show a'.eval (.tmp 49) = .pointer (some ⟨w.heap.size, 0, none⟩) from hd.get 12 49 (by kernel_rfl) (by kernel_rfl))
              have ec : ∀ v, a'.eval (.const v) = v := fun _ => rfl
              have c0 := keep hb a0
              clear hs hd
              unfold Oper.wp
              generalize a'.eval = ρ at e0 ec ⊢
              simp [go_sem, e0, c0]
              exact hK _ _ (Below.refl _ _) rfl) <|
                allOps_cons (fun _ a' w' hb hs hd => rg_op fun K hK => by
              have e0 := (hs.get 6 (by kernel_rfl)).trans (show _ = .int .i64 k from rfl)
              have ec : ∀ v, a'.eval (.const v) = v := fun _ => rfl
              clear hs hd
              unfold Oper.wp
              generalize a'.eval = ρ at e0 ec ⊢
              simp [go_sem, e0]
              exact hK _ _ (Below.refl _ _) rfl) <|
                allOps_cons (fun _ a' w' hb hs hd => rg_op fun K hK => by
              have e0 := (show a'.eval (.tmp 50) = .slice (some ⟨bA, oA, none⟩) L cA from hd.get 13 50 (by kernel_rfl) (by kernel_rfl))
              have e1 := (show a'.eval (.tmp 51) = .int .i64 k from hd.get 14 51 (by kernel_rfl) (by kernel_rfl))
              have ec : ∀ v, a'.eval (.const v) = v := fun _ => rfl
              clear hs hd
              unfold Oper.wp
              generalize a'.eval = ρ at e0 e1 ec ⊢
              simp [go_sem, e0, e1, g1, g2]
              exact hK _ _ (Below.refl _ _) rfl) <|
                allOps_cons (fun _ a' w' hb hs hd => rg_op fun K hK => by
              have e0 := (show a'.eval (.tmp 52) = .pointer (some ⟨bA, oA + k, none⟩) from hd.get 15 52 (by kernel_rfl) (by kernel_rfl))
              have ec : ∀ v, a'.eval (.const v) = v := fun _ => rfl
              have c0 := keep hb x0
              clear hs hd
              unfold Oper.wp
              generalize a'.eval = ρ at e0 ec ⊢
              simp [go_sem, e0, c0]
              exact hK _ _ (Below.refl _ _) rfl) <|
                allOps_cons (fun _ a' w' hb hs hd => rg_op fun K hK => by
              have e0 := (hs.get 3 (by kernel_rfl)).trans (show _ = .pointer (some ⟨w.heap.size + 1, 0, none⟩) from rfl)
              have ec : ∀ v, a'.eval (.const v) = v := fun _ => rfl
              clear hs hd
              unfold Oper.wp
              generalize a'.eval = ρ at e0 ec ⊢
              simp [go_sem, e0]
              exact hK _ _ (Below.refl _ _) rfl) <|
                allOps_cons (fun _ a' w' hb hs hd => rg_op fun K hK => by
              have e0 := (show a'.eval (.tmp 54) = .pointer (some ⟨w.heap.size + 1, 0, none⟩) from hd.get 17 54 (by kernel_rfl) (by kernel_rfl))
              have ec : ∀ v, a'.eval (.const v) = v := fun _ => rfl
              have c0 := keep hb b0
              clear hs hd
              unfold Oper.wp
              generalize a'.eval = ρ at e0 ec ⊢
              simp [go_sem, e0, c0]
              exact hK _ _ (Below.refl _ _) rfl) <|
                allOps_cons (fun _ a' w' hb hs hd => rg_op fun K hK => by
              have e0 := (hs.get 7 (by kernel_rfl)).trans (show _ = .int .i64 j from rfl)
              have ec : ∀ v, a'.eval (.const v) = v := fun _ => rfl
              clear hs hd
              unfold Oper.wp
              generalize a'.eval = ρ at e0 ec ⊢
              simp [go_sem, e0]
              exact hK _ _ (Below.refl _ _) rfl) <|
                allOps_cons (fun _ a' w' hb hs hd => rg_op fun K hK => by
              have e0 := (show a'.eval (.tmp 55) = .slice (some ⟨bB, oB, none⟩) M cB from hd.get 18 55 (by kernel_rfl) (by kernel_rfl))
              have e1 := (show a'.eval (.tmp 56) = .int .i64 j from hd.get 19 56 (by kernel_rfl) (by kernel_rfl))
              have ec : ∀ v, a'.eval (.const v) = v := fun _ => rfl
              clear hs hd
              unfold Oper.wp
              generalize a'.eval = ρ at e0 e1 ec ⊢
              simp [go_sem, e0, e1, g3, g4]
              exact hK _ _ (Below.refl _ _) rfl) <|
                allOps_cons (fun _ a' w' hb hs hd => rg_op fun K hK => by
              have e0 := (show a'.eval (.tmp 57) = .pointer (some ⟨bB, oB + j, none⟩) from hd.get 20 57 (by kernel_rfl) (by kernel_rfl))
              have ec : ∀ v, a'.eval (.const v) = v := fun _ => rfl
              have c0 := keep hb y0
              clear hs hd
              unfold Oper.wp
              generalize a'.eval = ρ at e0 ec ⊢
              simp [go_sem, e0, c0]
              exact hK _ _ (Below.refl _ _) rfl) <|
                allOps_cons (fun _ a' w' hb hs hd => rg_op fun K hK => by
              have e0 := (show a'.eval (.tmp 53) = .int .i64 x from hd.get 16 53 (by kernel_rfl) (by kernel_rfl))
              have e1 := (show a'.eval (.tmp 58) = .int .i64 yj from hd.get 21 58 (by kernel_rfl) (by kernel_rfl))
              have ec : ∀ v, a'.eval (.const v) = v := fun _ => rfl
              clear hs hd
              unfold Oper.wp
              generalize a'.eval = ρ at e0 e1 ec ⊢
              simp [go_sem, e0, e1, u2]
              exact hK _ _ (Below.refl _ _) rfl) <|
                allOps_cons (fun _ a' w' hb hs hd => rg_op fun K hK => by
              have e0 := (show a'.eval (.tmp 48) = .int .i64 cv from hd.get 11 48 (by kernel_rfl) (by kernel_rfl))
              have e1 := (show a'.eval (.tmp 59) = .int .i64 (x * yj) from hd.get 22 59 (by kernel_rfl) (by kernel_rfl))
              have ec : ∀ v, a'.eval (.const v) = v := fun _ => rfl
              clear hs hd
              unfold Oper.wp
              generalize a'.eval = ρ at e0 e1 ec ⊢
              simp [go_sem, e0, e1, u3]
              exact hK _ _ (Below.refl _ _) rfl) <|
                allOps_cons (fun _ a' w' hb hs hd => rg_op fun K hK => by
              have e0 := (show a'.eval (.tmp 38) = .slice (some ⟨G, 0, none⟩) N N from hd.get 1 38 (by kernel_rfl) (by kernel_rfl))
              have e1 := (show a'.eval (.tmp 41) = .int .i64 (i9 : Int) from hd.get 4 41 (by kernel_rfl) (by kernel_rfl))
              have ec : ∀ v, a'.eval (.const v) = v := fun _ => rfl
              clear hs hd
              unfold Oper.wp
              generalize a'.eval = ρ at e0 e1 ec ⊢
              simp [go_sem, e0, e1, g5, g6]
              exact hK _ _ (Below.refl _ _) rfl) <| allOps_cons (fun h => absurd rfl h) <| allOps_nil) (fun V v4 hv4 hall K hK => ?_)
          have h61 : V 61 = .pointer (some ⟨G, i9, none⟩) := hall.get 24 rfl (by decide)
          have h60 : V 60 = .int .i64 (cv + x * yj) := hall.get 23 rfl (by decide)
          clear hall
          have HI1 := Lib.hid (HI.out.on hv4)
          have HC1 := Lib.hid (HC.out.on hv4)
          have BV1 := Lib.hid (belowT BV.out hv4)
          refine op_st1 rfl h61 h60 (HI1.out.2 i9 hi9N).1 (HI1.out.2 i9 hi9N).2 ?_
          refine hK _ _ ?_
          simp only [rb1, maskPut, Nat.reduceAdd]
          clear h60 h61 hK hv4 x0 a0 b0 q0 c0 f0 y0
          go_wp2_with fail
          go_roundw
          case rel => exact ⟨j + 1, by omega, by go_num, BV1.out.setCell hGw _, HC1.out.set hGB, (HI1.out.set (k := i9) hi9N _).same (fun i _ => (HJs.out i).symm)⟩
          case measure => simp [intOf]; omega
        · obtain rfl : j = M := by omega
          go_wp2_with fail
          go_roundw
          case rel => exact ⟨k + 1, by omega, by go_num, BV.out, HC.out, by rw [HKs.out]; exact HI.out⟩
          case measure => simp [intOf]; omega
    · obtain rfl : k = L := by omega
      have q0 := HC.out.2.2.1.1
      have q1 := HC.out.2.2.1.2
      have r0 := HC.out.2.2.2.1.1
      have r1 := HC.out.2.2.2.1.2
      have z0 := HC.out.2.2.2.2.1
      have z1 := HC.out.2.2.2.2.2
      go_wp2_with fail
      refine bodyPost_ret (v := .agg #[.slice (some ⟨G, 0, none⟩) N N, .int .i64 dd]) (by simp [results, Try.results69, go_sem, *]) rfl ⟨G, by rw [hdd], by have Bq := BV.out; (repeat (first | with_reducible exact Below.refl _ _ | with_reducible assumption | with_reducible refine Below.alloc ?_ (by first | (simp; done) | (simp; omega) | omega) _ | with_reducible refine Below.setCell ?_ (by first | (simp; done) | (simp; omega) | omega) _ | with_reducible refine Below.drew ?_ | with_reducible refine below_drewN ?_ _)), ?_⟩
      exact ((HI.out.far (by show G ≠ w.heap.size + 2; exact hGB.2.2.1) _).far (by show G ≠ w.heap.size + 2; exact hGB.2.2.1) _).ia
end Go.Proofs.Ytpkacfgmojblbaa
namespace Go.Proofs.Ytpkacfgmojblbaa
open Go.RowKit
attribute [local go_sem] old1 fro1 old2 fro2 old3 fro3 old4 fro4 old5 fro5 old6 fro6 old7 fro7 old8 fro8 old9 fro9 old10 fro10 old11 fro11 old12 fro12
set_option maxRecDepth 100000 in
set_option maxHeartbeats 2000000 in
theorem responseR_any (A : Option Addr) (n c : Nat) (xs : Nat → Int) (den q : Int) (hF : flE n xs den = 0) (hQ : rgE q 0 3 = 0) (w : World) (hA : IA w A n xs) :
    Calls Try.prog 68 #[.agg #[.slice A n c, .int .i64 den], .int .i64 q] w fun e w' => e = .returned (.agg #[.int .i64 (bnS (-q) (re0 xs) n).1, .int .i64 (bnS (-q) (re0 xs) n).2]) ∧ Below w.heap.size w w' := by
  obtain ⟨⟨n0, n8⟩, _, hxs⟩ := fl_0 hF
  obtain ⟨q0, q1⟩ := rg_0 hQ
  have HBN := Lib.hid (fun A' c' W (hW : GA W A' n (re0 xs)) => binOfR_any A' n c' (re0 xs) q W (by omega) hW (by omega) (by omega) (fun i hi => by have := hxs i hi; simp only [re0]; omega))
  obtain ⟨i0, hi0, hz0, hz1, hz2⟩ := info_parts infoG
  have HA := Lib.hid hA
  clear hA hF hQ hxs q0 q1
  generalize hG : re0 xs = gg at *
  have hgk : ∀ k : Nat, gg k = (xs k, 0) := fun k => by rw [← hG]; rfl
  go_enter Try.func68, Try.ntmps68
  go_wp2_with fail
  go_loopw [5, 6] (fun s7 s23 wr => ∃ (k : Nat), k ≤ n ∧ s23 = .int .i64 k ∧ Below w.heap.size w wr ∧ w.heap.size + 1 < wr.heap.size ∧ Hid (wr.ownsRow (w.heap.size + 2) 23 2 s7 k (gV k gg)) ∧ ((wr.cell? ⟨w.heap.size, 0, none⟩ = some (.slice A n c) ∧ wr.cell? ⟨w.heap.size + 1, 0, none⟩ = some (.int .i64 0) ∧ wr.cell? ⟨w.heap.size + 1, 1, none⟩ = some (.int .i64 0)) ∧ wr.frozen? ⟨w.heap.size + 1, 0, none⟩ = false ∧ wr.frozen? ⟨w.heap.size + 1, 1, none⟩ = false)) (fun _ i _ => n - (intOf i).toNat)
  case atStart => exact ⟨0, Nat.zero_le _, rfl, by show Below w.heap.size w _; (repeat (first | with_reducible exact Below.refl _ _ | with_reducible assumption | with_reducible refine Below.alloc ?_ (by first | (simp; done) | (simp; omega) | omega) _ | with_reducible refine Below.setCell ?_ (by first | (simp; done) | (simp; omega) | omega) _ | with_reducible refine Below.drew ?_ | with_reducible refine below_drewN ?_ _)), by simp, World.ownsRow_nil _ _ _ _, ⟨by simp [go_sem], by simp [go_sem], by simp [go_sem]⟩, by simp [go_sem], by simp [go_sem]⟩
  case round =>
    obtain ⟨k, hk, rfl, hbel, hsz2, HO, ⟨l0', r0', r1'⟩, z0', z1'⟩ := hrel
    have HB := Lib.hid hbel
    by_cases hlt : k < n
    · obtain ⟨bA, oA, rfl, hA2⟩ := HA.out.bel hbel (by omega)
      have x0 := hA2 k hlt
      have HS : Hid (gV (k + 1) gg = gV k gg ++ [.int .i64 (xs k), .int .i64 0]) := Lib.hid (by simp only [gV, hgk])
      have g1 : (0 : Int) ≤ (k : Int) := by omega
      have g2 : (k : Int) < (n : Int) := by omega
      clear hbel hA2
      go_wp2_with (at_builtin; go_loud (refine wpList_append_own_at _ rfl _ _ 42 rfl (w.heap.size + 2) 23 i0 _ 2 16 undGs hi0 hz0 hz1 hz2 rfl (by decide) u5 _ _ rfl (HO.out.alloc _) ⟨wr.heap.size, 0, none⟩ 1 1 [.int .i64 (xs k), .int .i64 0] rfl rfl (news2 _ _ _ _) (by simp [Value.oneCell']) (by unfold maxLen; omega) (by omega) (by simp; omega) ?_; intro v' w5 hown' hgrow hnil hloc; rw [← HS.out] at hown'; have HO5 := Lib.hid hown'; have BW := app_bel (by omega) HO.out hgrow; have HB5 := Lib.hid (HB.out.trans (BW.mono (by omega))); have L0 := (BW.cell (p := ⟨w.heap.size, 0, none⟩) (by show w.heap.size < _; omega)).trans l0'; have R0 := (BW.cell (p := ⟨w.heap.size + 1, 0, none⟩) (by show w.heap.size + 1 < _; omega)).trans r0'; have R1 := (BW.cell (p := ⟨w.heap.size + 1, 1, none⟩) (by show w.heap.size + 1 < _; omega)).trans r1'; have Z0 := (BW.frozen (p := ⟨w.heap.size + 1, 0, none⟩) (by show w.heap.size + 1 < _; omega)).trans z0'; have Z1 := (BW.frozen (p := ⟨w.heap.size + 1, 1, none⟩) (by show w.heap.size + 1 < _; omega)).trans z1'; have hs5 : w.heap.size + 1 < w5.heap.size := Nat.lt_of_lt_of_le hsz2 BW.size; clear hown' hgrow hnil hloc BW))
      go_roundw
      case rel => exact ⟨k + 1, by omega, by go_num, HB5.out, hs5, HO5.out, ⟨L0, R0, R1⟩, Z0, Z1⟩
      case measure => simp [intOf]; omega
    · obtain rfl : k = n := by omega
      clear hbel
      obtain ⟨e7, h7, _⟩ := own_gV HO.out
      have HG := Lib.hid h7
      generalize sA u5 = A7 at *
      generalize sC u5 = C7 at *
      subst e7
      clear h7
      generalize hX : (bnS (-q) gg k).1 = X at *
      generalize hY : (bnS (-q) gg k).2 = Y at *
      go_wp2_with (go_at_call 78; (with_reducible refine Calls.mono (HBN.out _ _ _ HG.out) ?_); rintro e w6 ⟨rfl, hb6⟩; have HB6 := Lib.hid (belowT HB.out hb6); have R0 := keep hb6 r0'; have R1 := keep hb6 r1'; have Z0 := (hb6.frozen (p := ⟨w.heap.size + 1, 0, none⟩) (lt_of r0')).trans z0'; have Z1 := (hb6.frozen (p := ⟨w.heap.size + 1, 1, none⟩) (lt_of r1')).trans z1'; clear hb6)
      refine bodyPost_ret (v := .agg #[.int .i64 X, .int .i64 Y]) (by simp [results, Try.results68, go_sem, *]) rfl ⟨by rw [hX, hY], by have Bq := HB6.out; (repeat (first | with_reducible exact Below.refl _ _ | with_reducible assumption | with_reducible refine Below.alloc ?_ (by first | (simp; done) | (simp; omega) | omega) _ | with_reducible refine Below.setCell ?_ (by first | (simp; done) | (simp; omega) | omega) _ | with_reducible refine Below.drew ?_ | with_reducible refine below_drewN ?_ _))⟩

theorem sameFilter_any (A B : Option Addr) (n c c' : Nat) (xs : Nat → Int) (d : Int) (w : World) (hn : n ≤ 1000000) (hA : IA w A n xs) (hB : IA w B n xs) :
    Calls Try.prog 66 #[.agg #[.slice A n c, .int .i64 d], .agg #[.slice B n c', .int .i64 d]] w fun e w' => e = .returned (.bool true) ∧ Below w.heap.size w w' := by
  have HI := Lib.hid (fun W (hW : Below w.heap.size w W) => (ints_any A B n c n c' xs xs W hn (hA.bel hW) (hB.bel hW)).mono (R' := fun e w' => e = .returned (.bool true) ∧ Below W.heap.size W w') (by rintro e w' ⟨rfl, hb⟩; exact ⟨by simp, hb⟩))
  clear hA hB
  go_enter Try.func66, Try.ntmps66
  go_wp2_with (go_at_call 30; (with_reducible refine Calls.mono (HI.out _ (by (repeat (first | with_reducible exact Below.refl _ _ | with_reducible assumption | with_reducible refine Below.alloc ?_ (by first | (simp; done) | (simp; omega) | omega) _ | with_reducible refine Below.setCell ?_ (by first | (simp; done) | (simp; omega) | omega) _ | with_reducible refine Below.drew ?_ | with_reducible refine below_drewN ?_ _)))) ?_); rintro e w1 ⟨rfl, hb1⟩; have BV := Lib.hid (belowT (show Below w.heap.size w _ by (repeat (first | with_reducible exact Below.refl _ _ | with_reducible assumption | with_reducible refine Below.alloc ?_ (by first | (simp; done) | (simp; omega) | omega) _ | with_reducible refine Below.setCell ?_ (by first | (simp; done) | (simp; omega) | omega) _ | with_reducible refine Below.drew ?_ | with_reducible refine below_drewN ?_ _))) hb1); clear hb1)
  go_ret
  exact ⟨rfl, BV.out⟩
set_option maxRecDepth 100000 in
set_option maxHeartbeats 800000 in
theorem quarterR_any (n : Int) (w : World) : Calls Try.prog 67 #[.int .i64 n] w fun e w' => e = .returned (.int .i64 (rgE n 0 3)) ∧ Below w.heap.size w w' := by
  cases hw : wi n 0 3
  · rw [show rgE n 0 3 = 2 by unfold rgE; rw [hw]; rfl]
    go_enter Try.func67, Try.ntmps67
    go_wp2_with (go_at_call 21; (with_reducible refine Calls.mono (bwithin_any _ _ _ _) ?_); rintro e w1 ⟨rfl, rfl⟩)
    go_ret
    exact ⟨rfl, by (repeat (first | with_reducible exact Below.refl _ _ | with_reducible assumption | with_reducible refine Below.alloc ?_ (by first | (simp; done) | (simp; omega) | omega) _ | with_reducible refine Below.setCell ?_ (by first | (simp; done) | (simp; omega) | omega) _ | with_reducible refine Below.drew ?_ | with_reducible refine below_drewN ?_ _))⟩
  · rw [show rgE n 0 3 = 0 by unfold rgE; rw [hw]; rfl]
    go_enter Try.func67, Try.ntmps67
    go_wp2_with (go_at_call 21; (with_reducible refine Calls.mono (bwithin_any _ _ _ _) ?_); rintro e w1 ⟨rfl, rfl⟩)
    go_ret
    exact ⟨rfl, by (repeat (first | with_reducible exact Below.refl _ _ | with_reducible assumption | with_reducible refine Below.alloc ?_ (by first | (simp; done) | (simp; omega) | omega) _ | with_reducible refine Below.setCell ?_ (by first | (simp; done) | (simp; omega) | omega) _ | with_reducible refine Below.drew ?_ | with_reducible refine below_drewN ?_ _))⟩
end Go.Proofs.Ytpkacfgmojblbaa
