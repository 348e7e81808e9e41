/- Helpers: Windows: its errors, and the windows that it returns. No condition but the hypotheses that each theorem names. -/
import Derived.Test.YtnfoagcpgegldaaGreatB05
import Derived.Test.YtnfoagcpgegldaaGreatB24
import Derived.OwnWalk
import Derived.Maps.AppendAt
import Derived.Laws.OwnMore
namespace Go.Proofs.YtnfoagcpgegldaaGreat
open Go.RowKit Go.Shelf Go.Sort
attribute [local go_sem] idx3_0 idx3_1 idx3_2 old1 fro1 old2 fro2 old3 fro3 old4 fro4 old5 fro5 old6 fro6 old7 fro7 old8 fro8 old9 fro9 old10 fro10 old11 fro11 old12 fro12
def mw1 : List Bool := [false, false, false, false, false, false, false, false, false, false, true, false, false, false, false, false, false, false, false, false, false, false, false, false, false, false, false, false, false, false, false, false, false, false, false, false, false, false, false, false, false, false, false, false, false, true, true, true, true, true, false, false, false, false, false, false, false, false, false, false, false, false, false, false, false, false, false, false, false, false, false, false, false, false, false, false, false, false, false]
theorem infoWin : (Tryz.prog.info? 81).map (fun i => (i.zero, i.size, i.bytes)) = some (some (.agg #[.int .i64 0, .int .i64 0, .int .i64 0]), 3, 24) := by kernel_rfl
theorem undWins : Tryz.prog.underlying 74 = some (.slice 81) := by kernel_rfl
theorem news3 (w : World) (x y z : Value) (t : TypeId) : ∀ j u, [x, y, z][j]? = some u → (w.alloc (.cells #[x, y, z] t)).cell? ((⟨w.heap.size, 0, none⟩ : Addr).add j) = some u := by
  intro j u hj
  match j, hj with
  | 0, hj => simp at hj; subst hj; simp [Addr.add]
  | 1, hj => simp at hj; subst hj; simp [Addr.add]
  | 2, hj => simp at hj; subst hj; simp [Addr.add]
  | j + 3, hj => simp at hj
theorem own_some {w : World} {base e sz n : Nat} {v : Value} {xs : List Value} (h : w.ownsRow base e sz v n xs) (h0 : 0 < n) : ∃ g c, v = .slice (some ⟨g, 0, none⟩) n c := by
  obtain ⟨h1, h2⟩ := own_parts h
  rw [(h2 h0).1] at h1
  exact ⟨_, _, h1⟩
theorem own_bel {w w1 : World} {base e sz n : Nat} {v : Value} {xs : List Value} (h : w.ownsRow base e sz v n xs) (hb : Below w.heap.size w w1) : w1.ownsRow base e sz v n xs :=
  ⟨h.1, by
    rcases h.2 with hn | ⟨g, cap, cur, rfl, hbb, hgg, rest⟩
    · exact .inl hn
    · refine .inr ⟨g, cap, cur, rfl, hbb, ?_, rest⟩
      rw [hb.block g (Array.getElem?_eq_some_iff.1 hgg).1]
      exact hgg⟩
/-- behind the append of a new window -/
theorem add_own {f : Nat → Int} {S : WS} {k e B : Nat} {v v' : Value} {V w1 w5 : World} {o : Obj} (z : Value) (ho : w1.ownsRow B e 3 v S.m (winL f S)) (hB : V.heap.size = B) (hb : Below V.heap.size V w1) (hown : w5.ownsRow B e 3 v' (S.m + 1) (winL f S ++ [.int .i64 (f k), .int .i64 k, z])) (hg : (w1.alloc o).grownBy w5 v.ownBlock) (hm : S.m ≤ 200) :
    ∃ g c M, v' = .slice (some ⟨g, 0, none⟩) M c ∧ Hid (M = S.m + 1) ∧ Hid (w5.ownsRow B e 3 (.slice (some ⟨g, 0, none⟩) M c) M (winL f S ++ [.int .i64 (f k), .int .i64 k, z])) ∧ Hid (Below V.heap.size V w5) ∧ w5.cell? ⟨g, (M - 1) * 3 + 2, none⟩ = some z ∧ w5.frozen? ⟨g, (M - 1) * 3 + 2, none⟩ = false ∧
      (0 : Int) ≤ (M : Int) - 1 ∧ (M : Int) - 1 < (M : Int) ∧ ((M : Int) - 1).toNat = M - 1 ∧ IntKind.i64.wrap ((M : Int) - 1) = (M : Int) - 1 := by
  subst hB
  obtain ⟨g, c, rfl⟩ := own_some hown (Nat.succ_pos _)
  refine ⟨g, c, S.m + 1, rfl, rfl, hown, ?_, ?_, hown.frozenAt _, by omega, by omega, by omega, IntWalk.i64_in _ (by omega)⟩
  · exact (hb.alloc hb.size o).grown hg (by have := hb.size; simp; omega) (fun i hi => (ho.lt i hi).1)
  · rw [hown.cellAt _ (by omega), show S.m + 1 - 1 = S.m by omega, List.getElem?_append_right (by rw [winL_len]; omega), winL_len]
    simp
theorem step_add {f : Nat → Int} {S : WS} {k e B g c M : Nat} {z : Value} {w5 : World} (hM : M = S.m + 1) (hown : w5.ownsRow B e 3 (.slice (some ⟨g, 0, none⟩) M c) M (winL f S ++ [.int .i64 (f k), .int .i64 k, z])) :
    (w5.setCell ⟨g, (M - 1) * 3 + 2, none⟩ (.int .i64 k)).ownsRow B e 3 (.slice (some ⟨g, 0, none⟩) M c) (wsAdd S k).m (winL f (wsAdd S k)) := by
  subst hM
  have h := (hown.stored ((S.m + 1 - 1) * 3 + 2) (.int .i64 k)).1
  rw [show S.m + 1 - 1 = S.m by omega] at h ⊢
  rw [winL_add] at h
  exact h
theorem step_ext {f : Nat → Int} {S : WS} {k e B g c : Nat} {w5 : World} (h0 : 0 < S.m) (hown : w5.ownsRow B e 3 (.slice (some ⟨g, 0, none⟩) S.m c) S.m (winL f S)) :
    (w5.setCell ⟨g, (S.m - 1) * 3 + 2, none⟩ (.int .i64 k)).ownsRow B e 3 (.slice (some ⟨g, 0, none⟩) S.m c) (wsExt S k).m (winL f (wsExt S k)) := by
  have h := (hown.stored ((S.m - 1) * 3 + 2) (.int .i64 k)).1
  rw [winL_ext f S k h0] at h
  exact h
/-- what the last window's cells hold -/
theorem last_own {f : Nat → Int} {S : WS} {e B : Nat} {v : Value} {w1 : World} (h0 : 0 < S.m) (hm : S.m ≤ 200) (ho : w1.ownsRow B e 3 v S.m (winL f S)) :
    ∃ g c, v = .slice (some ⟨g, 0, none⟩) S.m c ∧ w1.cell? ⟨g, (S.m - 1) * 3, none⟩ = some (.int .i64 (f (S.F (S.m - 1)))) ∧ w1.cell? ⟨g, (S.m - 1) * 3 + 2, none⟩ = some (.int .i64 (S.L (S.m - 1))) ∧ w1.frozen? ⟨g, (S.m - 1) * 3 + 2, none⟩ = false ∧
      (0 : Int) ≤ (S.m : Int) - 1 ∧ (S.m : Int) - 1 < (S.m : Int) ∧ ((S.m : Int) - 1).toNat = S.m - 1 ∧ IntKind.i64.wrap ((S.m : Int) - 1) = (S.m : Int) - 1 := by
  obtain ⟨g, c, rfl⟩ := own_some ho h0
  refine ⟨g, c, rfl, ?_, ?_, ho.frozenAt _, by omega, by omega, by omega, IntWalk.i64_in _ (by omega)⟩
  · rw [ho.cellAt _ (by omega)]
    exact winL_get (r := 0) (by omega) (by omega)
  · rw [ho.cellAt _ (by omega), winL_get (by omega) (by omega)]
    rfl
def SomeWin (w : World) (f : Nat → Int) (q : Nat) (e : Ending) (w' : World) : Prop := ∃ A c, e = .returned (.tuple #[.slice A (ws f q).m c, .int .i64 0]) ∧ WinAt w' A f (ws f q) ∧ Below w.heap.size w w'
set_option maxRecDepth 100000 in
set_option maxHeartbeats 4000000 in
theorem windows_err (ux uy uz : Int) (C SA SB : Option Addr) (n c na ca nb cb : Nat) (k : Nat → Cone) (ka kb : Nat → Knot) (da db fr st ct cm T0 T1 : Int) (w : World) (hn : n ≤ 9223372036854775807) (hk : KC w C n k) (hA : TV.At (⟨SA, na, ca, ka, da⟩ : TV) w) (hB : TV.At (⟨SB, nb, cb, kb, db⟩ : TV) w)
    (hcm : IntKind.i64.wrap (ct - 1) = cm) (hT0 : tAt fr st 0 = T0) (hT1 : tAt fr st cm = T1) (hE : (wnErr (siteRes ux uy uz n k).2 (⟨SA, na, ca, ka, da⟩ : TV) (⟨SB, nb, cb, kb, db⟩ : TV) st ct T0 T1) ≠ 0) :
    Calls Tryz.prog 41 #[.agg #[.int .i64 ux, .int .i64 uy, .int .i64 uz, .slice C n c, .slice SA na ca, .int .i64 da, .slice SB nb cb, .int .i64 db], .agg #[.int .i64 fr, .int .i64 st, .int .i64 ct]] w fun e w' => e = .returned (.tuple #[.slice none 0 0, .int .i64 (wnErr (siteRes ux uy uz n k).2 (⟨SA, na, ca, ka, da⟩ : TV) (⟨SB, nb, cb, kb, db⟩ : TV) st ct T0 T1)]) ∧ Below w.heap.size w w' := by
  have HNE := Lib.hid hE
  clear hE
  have HK := Lib.hid hk
  have HVA := Lib.hid hA
  have HVB := Lib.hid hB
  clear hk hA hB
  go_enter Tryz.func41, Tryz.ntmps41
  go_wp2_with fail
  have u0 := (show ((w.alloc (.cells #[.int .i64 ux, .int .i64 uy, .int .i64 uz, .slice C n c, .slice SA na ca, .int .i64 da, .slice SB nb cb, .int .i64 db] 59)).alloc (.cells #[.int .i64 fr, .int .i64 st, .int .i64 ct] 73)).cell? ⟨w.heap.size, 0, none⟩ = some (.int .i64 ux) by simp [go_sem])
  have u1 := (show ((w.alloc (.cells #[.int .i64 ux, .int .i64 uy, .int .i64 uz, .slice C n c, .slice SA na ca, .int .i64 da, .slice SB nb cb, .int .i64 db] 59)).alloc (.cells #[.int .i64 fr, .int .i64 st, .int .i64 ct] 73)).cell? ⟨w.heap.size, 1, none⟩ = some (.int .i64 uy) by simp [go_sem])
  have u2 := (show ((w.alloc (.cells #[.int .i64 ux, .int .i64 uy, .int .i64 uz, .slice C n c, .slice SA na ca, .int .i64 da, .slice SB nb cb, .int .i64 db] 59)).alloc (.cells #[.int .i64 fr, .int .i64 st, .int .i64 ct] 73)).cell? ⟨w.heap.size, 2, none⟩ = some (.int .i64 uz) by simp [go_sem])
  have u3 := (show ((w.alloc (.cells #[.int .i64 ux, .int .i64 uy, .int .i64 uz, .slice C n c, .slice SA na ca, .int .i64 da, .slice SB nb cb, .int .i64 db] 59)).alloc (.cells #[.int .i64 fr, .int .i64 st, .int .i64 ct] 73)).cell? ⟨w.heap.size, 3, none⟩ = some (.slice C n c) by simp [go_sem])
  have a0 := (show ((w.alloc (.cells #[.int .i64 ux, .int .i64 uy, .int .i64 uz, .slice C n c, .slice SA na ca, .int .i64 da, .slice SB nb cb, .int .i64 db] 59)).alloc (.cells #[.int .i64 fr, .int .i64 st, .int .i64 ct] 73)).cell? ⟨w.heap.size, 4, none⟩ = some (.slice SA na ca) by simp [go_sem])
  have a1 := (show ((w.alloc (.cells #[.int .i64 ux, .int .i64 uy, .int .i64 uz, .slice C n c, .slice SA na ca, .int .i64 da, .slice SB nb cb, .int .i64 db] 59)).alloc (.cells #[.int .i64 fr, .int .i64 st, .int .i64 ct] 73)).cell? ⟨w.heap.size, 5, none⟩ = some (.int .i64 da) by simp [go_sem])
  have b0 := (show ((w.alloc (.cells #[.int .i64 ux, .int .i64 uy, .int .i64 uz, .slice C n c, .slice SA na ca, .int .i64 da, .slice SB nb cb, .int .i64 db] 59)).alloc (.cells #[.int .i64 fr, .int .i64 st, .int .i64 ct] 73)).cell? ⟨w.heap.size, 6, none⟩ = some (.slice SB nb cb) by simp [go_sem])
  have b1 := (show ((w.alloc (.cells #[.int .i64 ux, .int .i64 uy, .int .i64 uz, .slice C n c, .slice SA na ca, .int .i64 da, .slice SB nb cb, .int .i64 db] 59)).alloc (.cells #[.int .i64 fr, .int .i64 st, .int .i64 ct] 73)).cell? ⟨w.heap.size, 7, none⟩ = some (.int .i64 db) by simp [go_sem])
  have g0 := (show ((w.alloc (.cells #[.int .i64 ux, .int .i64 uy, .int .i64 uz, .slice C n c, .slice SA na ca, .int .i64 da, .slice SB nb cb, .int .i64 db] 59)).alloc (.cells #[.int .i64 fr, .int .i64 st, .int .i64 ct] 73)).cell? ⟨w.heap.size + 1, 0, none⟩ = some (.int .i64 fr) by simp [go_sem])
  have g1 := (show ((w.alloc (.cells #[.int .i64 ux, .int .i64 uy, .int .i64 uz, .slice C n c, .slice SA na ca, .int .i64 da, .slice SB nb cb, .int .i64 db] 59)).alloc (.cells #[.int .i64 fr, .int .i64 st, .int .i64 ct] 73)).cell? ⟨w.heap.size + 1, 1, none⟩ = some (.int .i64 st) by simp [go_sem])
  have g2 := (show ((w.alloc (.cells #[.int .i64 ux, .int .i64 uy, .int .i64 uz, .slice C n c, .slice SA na ca, .int .i64 da, .slice SB nb cb, .int .i64 db] 59)).alloc (.cells #[.int .i64 fr, .int .i64 st, .int .i64 ct] 73)).cell? ⟨w.heap.size + 1, 2, none⟩ = some (.int .i64 ct) by simp [go_sem])
  have BV := Lib.hid (show Below w.heap.size w ((w.alloc (.cells #[.int .i64 ux, .int .i64 uy, .int .i64 uz, .slice C n c, .slice SA na ca, .int .i64 da, .slice SB nb cb, .int .i64 db] 59)).alloc (.cells #[.int .i64 fr, .int .i64 st, .int .i64 ct] 73)) by (repeat (first | with_reducible exact Below.refl _ _ | with_reducible assumption | with_reducible refine Below.alloc ?_ (by first | (simp; done) | (simp; omega) | omega) _ | with_reducible refine Below.setCell ?_ (by first | (simp; done) | (simp; omega) | omega) _ | with_reducible refine Below.drew ?_ | with_reducible refine below_drewN ?_ _)))
  replace HK := Lib.hid (HK.out.bel BV.out)
  replace HVA := Lib.hid (HVA.out.below BV.out)
  replace HVB := Lib.hid (HVB.out.below BV.out)
  generalize ((w.alloc (.cells #[.int .i64 ux, .int .i64 uy, .int .i64 uz, .slice C n c, .slice SA na ca, .int .i64 da, .slice SB nb cb, .int .i64 db] 59)).alloc (.cells #[.int .i64 fr, .int .i64 st, .int .i64 ct] 73)) = V at *
  refine wp_region_mp [mpEq (.agg #[.int .i64 ux, .int .i64 uy, .int .i64 uz, .slice C n c, .slice SA na ca, .int .i64 da, .slice SB nb cb, .int .i64 db]), mpChk True (vwErr (siteRes ux uy uz n k).2 (⟨SA, na, ca, ka, da⟩ : TV) (⟨SB, nb, cb, kb, db⟩ : TV)), mpCnd True (wi st 1 10000 && wi ct 1 200), mpChk True (grE st ct), mpEq (.func (.func 85) #[] #[.pointer (some ⟨w.heap.size + 1, 0, none⟩)]), mpEq (.int .i64 T0), mpEq (.pointer (some ⟨w.heap.size, 4, none⟩)), mpEq (.agg #[.slice SA na ca, .int .i64 da]), mpEq (.pointer (some ⟨w.heap.size, 6, none⟩)), mpEq (.agg #[.slice SB nb cb, .int .i64 db]), mpTwo (⟨SA, na, ca, ka, da⟩ : TV) (⟨SB, nb, cb, kb, db⟩ : TV), mpChk (TV.err (⟨SA, na, ca, ka, da⟩ : TV) = 0 ∧ TV.err (⟨SB, nb, cb, kb, db⟩ : TV) = 0) (timesErr (⟨SA, na, ca, ka, da⟩ : TV) (⟨SB, nb, cb, kb, db⟩ : TV) T0), mpEq (.func (.func 85) #[] #[.pointer (some ⟨w.heap.size + 1, 0, none⟩)]), mpEq (.pointer (some ⟨w.heap.size + 1, 2, none⟩)), mpEq (.int .i64 ct), mpEq (.int .i64 cm), mpEq (.int .i64 T1), mpEq (.pointer (some ⟨w.heap.size, 4, none⟩)), mpEq (.agg #[.slice SA na ca, .int .i64 da]), mpEq (.pointer (some ⟨w.heap.size, 6, none⟩)), mpEq (.agg #[.slice SB nb cb, .int .i64 db]), mpTwo (⟨SA, na, ca, ka, da⟩ : TV) (⟨SB, nb, cb, kb, db⟩ : TV), mpChk (TV.err (⟨SA, na, ca, ka, da⟩ : TV) = 0 ∧ TV.err (⟨SB, nb, cb, kb, db⟩ : TV) = 0) (timesErr (⟨SA, na, ca, ka, da⟩ : TV) (⟨SB, nb, cb, kb, db⟩ : TV) T1), mpChks 4 (fun i => if i = 0 then vwErr (siteRes ux uy uz n k).2 (⟨SA, na, ca, ka, da⟩ : TV) (⟨SB, nb, cb, kb, db⟩ : TV) else if i = 1 then grE st ct else if i = 2 then timesErr (⟨SA, na, ca, ka, da⟩ : TV) (⟨SB, nb, cb, kb, db⟩ : TV) T0 else timesErr (⟨SA, na, ca, ka, da⟩ : TV) (⟨SB, nb, cb, kb, db⟩ : TV) T1), mpEq (.int .i64 (wnErr (siteRes ux uy uz n k).2 (⟨SA, na, ca, ka, da⟩ : TV) (⟨SB, nb, cb, kb, db⟩ : TV) st ct T0 T1)), mpEq (.int .i64 (wnErr (siteRes ux uy uz n k).2 (⟨SA, na, ca, ka, da⟩ : TV) (⟨SB, nb, cb, kb, db⟩ : TV) st ct T0 T1))] mw0 (by kernel_rfl) (by kernel_rfl) (by kernel_rfl) (
      allOps_cons (fun a' w' hb hs hd => rg_op fun K hK => by
    have e1 := (hs.get 2 (by kernel_rfl)).trans (show _ = Value.pointer (some ⟨w.heap.size, 0, none⟩) from rfl)
    have c0 := keep hb u0
    have c1 := keep hb u1
    have c2 := keep hb u2
    have c3 := keep hb u3
    have c4 := keep hb a0
    have c5 := keep hb a1
    have c6 := keep hb b0
    have c7 := keep hb b1
    clear hs hd
    unfold Oper.wp
    generalize a'.eval = ρ at e1 ⊢
    simp [go_sem, e1, c0, c1, c2, c3, c4, c5, c6, c7]
    exact hK _ _ (Below.refl _ _) rfl) <|
      allOps_cons (fun a' w' hb hs hd => by
    exact rg_fn (φ := (mpChk True (vwErr (siteRes ux uy uz n k).2 (⟨SA, na, ca, ka, da⟩ : TV) (⟨SB, nb, cb, kb, db⟩ : TV))).p) (vs := #[.agg #[.int .i64 ux, .int .i64 uy, .int .i64 uz, .slice C n c, .slice SA na ca, .int .i64 da, .slice SB nb cb, .int .i64 db]]) rfl (enters_of Tryz.func78 (by kernel_rfl) rfl) (by simp [(show a'.eval (.tmp 12) = .agg #[.int .i64 ux, .int .i64 uy, .int .i64 uz, .slice C n c, .slice SA na ca, .int .i64 da, .slice SB nb cb, .int .i64 db] from hd.get 0 12 (by kernel_rfl) (by kernel_rfl))]) (viewCheck_chk ux uy uz C n c k (⟨SA, na, ca, ka, da⟩ : TV) (⟨SB, nb, cb, kb, db⟩ : TV) w' hn (HK.out.bel hb) (HVA.out.below hb) (HVB.out.below hb))) <|
      allOps_cons (fun a' w' hb hs hd => rg_op fun K hK => by
    have e1 := (hs.get 3 (by kernel_rfl)).trans (show _ = Value.pointer (some ⟨w.heap.size + 1, 0, none⟩) from rfl)
    clear hs hd
    unfold Oper.wp
    generalize a'.eval = ρ at e1 ⊢
    simp [go_sem, e1]
    exact hK _ _ (Below.refl _ _) ⟨_, _, rfl, (enters_of Tryz.func86 (by kernel_rfl) rfl), fun w1 h1 _ => windows2_any (w.heap.size + 1) st ct w1 (keep (belowT hb h1) g1) (keep (belowT hb h1) g2)⟩) <|
      allOps_cons (fun a' w' hb hs hd => by
    exact rg_fn (φ := (mpChk True (grE st ct)).p) (vs := #[.int .i64 2, a'.eval (.tmp 14)]) rfl (enters_of Tryz.func56 (by kernel_rfl) rfl) (by simp [show a'.eval (.const (.int .i64 2)) = .int .i64 2 from rfl]) (require_chk 2 _ w' (hd.get 2 14 (by kernel_rfl) (by kernel_rfl)))) <|
      allOps_cons (fun a' w' hb hs hd => rg_op fun K hK => by
    have e1 := (hs.get 6 (by kernel_rfl)).trans (show _ = .func (.func 85) #[] #[.pointer (some ⟨w.heap.size + 1, 0, none⟩)] from rfl)
    clear hs hd
    unfold Oper.wp
    generalize a'.eval = ρ at e1 ⊢
    simp [go_sem, e1]
    exact hK _ _ (Below.refl _ _) rfl) <|
      allOps_cons (fun a' w' hb hs hd => by
    exact rg_fn (φ := (mpEq (.int .i64 T0)).p) (vs := #[.int .i64 0, .pointer (some ⟨w.heap.size + 1, 0, none⟩)]) (show a'.eval (.tmp 16) = .func (.func 85) #[] #[.pointer (some ⟨w.heap.size + 1, 0, none⟩)] from hd.get 4 16 (by kernel_rfl) (by kernel_rfl)) (enters_of Tryz.func85 (by kernel_rfl) rfl) (by simp [show a'.eval (.const (.int .i64 0)) = .int .i64 0 from rfl]) ((windows1_any (w.heap.size + 1) 0 fr st w' (keep hb g0) (keep hb g1)).mono (by rintro e w1 ⟨rfl, rfl⟩; exact ⟨_, rfl, Below.refl _ _, congrArg (Value.int .i64) hT0⟩))) <|
      allOps_cons (fun a' w' hb hs hd => rg_op fun K hK => by
    have e1 := (hs.get 2 (by kernel_rfl)).trans (show _ = Value.pointer (some ⟨w.heap.size, 0, none⟩) from rfl)
    clear hs hd
    unfold Oper.wp
    generalize a'.eval = ρ at e1 ⊢
    simp [go_sem, e1]
    exact hK _ _ (Below.refl _ _) rfl) <|
      allOps_cons (fun a' w' hb hs hd => rg_op fun K hK => by
    have e1 := (show a'.eval (.tmp 18) = .pointer (some ⟨w.heap.size, 4, none⟩) from hd.get 6 18 (by kernel_rfl) (by kernel_rfl))
    have c0 := keep hb a0
    have c1 := keep hb a1
    clear hs hd
    unfold Oper.wp
    generalize a'.eval = ρ at e1 ⊢
    simp [go_sem, e1, c0, c1]
    exact hK _ _ (Below.refl _ _) rfl) <|
      allOps_cons (fun a' w' hb hs hd => rg_op fun K hK => by
    have e1 := (hs.get 2 (by kernel_rfl)).trans (show _ = Value.pointer (some ⟨w.heap.size, 0, none⟩) from rfl)
    clear hs hd
    unfold Oper.wp
    generalize a'.eval = ρ at e1 ⊢
    simp [go_sem, e1]
    exact hK _ _ (Below.refl _ _) rfl) <|
      allOps_cons (fun a' w' hb hs hd => rg_op fun K hK => by
    have e1 := (show a'.eval (.tmp 20) = .pointer (some ⟨w.heap.size, 6, none⟩) from hd.get 8 20 (by kernel_rfl) (by kernel_rfl))
    have c0 := keep hb b0
    have c1 := keep hb b1
    clear hs hd
    unfold Oper.wp
    generalize a'.eval = ρ at e1 ⊢
    simp [go_sem, e1, c0, c1]
    exact hK _ _ (Below.refl _ _) rfl) <|
      allOps_cons (fun a' w' hb hs hd => rg_op fun K hK => by
    have e1 := (show a'.eval (.tmp 19) = .agg #[.slice SA na ca, .int .i64 da] from hd.get 7 19 (by kernel_rfl) (by kernel_rfl))
    have e2 := (show a'.eval (.tmp 21) = .agg #[.slice SB nb cb, .int .i64 db] from hd.get 9 21 (by kernel_rfl) (by kernel_rfl))
    clear hs hd
    unfold Oper.wp
    generalize a'.eval = ρ at e1 e2 ⊢
    simp [go_sem, e1, e2]
    exact hK _ _ ((Below.refl _ _).alloc (Nat.le_refl _) _) ⟨_, rfl, by simp [go_sem], by simp [go_sem], by simp [go_sem], by simp [go_sem]⟩) <|
      allOps_cons (fun a' w' hb hs hd => by
    exact rg_fn (φ := (mpChk (TV.err (⟨SA, na, ca, ka, da⟩ : TV) = 0 ∧ TV.err (⟨SB, nb, cb, kb, db⟩ : TV) = 0) (timesErr (⟨SA, na, ca, ka, da⟩ : TV) (⟨SB, nb, cb, kb, db⟩ : TV) T0)).p) (vs := #[.int .i64 T0, a'.eval (.tmp 22)]) rfl (enters_of Tryz.func53 (by kernel_rfl) rfl) (by simp [(show a'.eval (.tmp 17) = .int .i64 T0 from hd.get 5 17 (by kernel_rfl) (by kernel_rfl))]) (timeCheck_chk (⟨SA, na, ca, ka, da⟩ : TV) (⟨SB, nb, cb, kb, db⟩ : TV) T0 _ w' (HVA.out.below hb) (HVB.out.below hb) (hd.get 10 22 (by kernel_rfl) (by kernel_rfl)))) <|
      allOps_cons (fun a' w' hb hs hd => rg_op fun K hK => by
    have e1 := (hs.get 6 (by kernel_rfl)).trans (show _ = .func (.func 85) #[] #[.pointer (some ⟨w.heap.size + 1, 0, none⟩)] from rfl)
    clear hs hd
    unfold Oper.wp
    generalize a'.eval = ρ at e1 ⊢
    simp [go_sem, e1]
    exact hK _ _ (Below.refl _ _) rfl) <|
      allOps_cons (fun a' w' hb hs hd => rg_op fun K hK => by
    have e1 := (hs.get 3 (by kernel_rfl)).trans (show _ = Value.pointer (some ⟨w.heap.size + 1, 0, none⟩) from rfl)
    clear hs hd
    unfold Oper.wp
    generalize a'.eval = ρ at e1 ⊢
    simp [go_sem, e1]
    exact hK _ _ (Below.refl _ _) rfl) <|
      allOps_cons (fun a' w' hb hs hd => rg_op fun K hK => by
    have e1 := (show a'.eval (.tmp 25) = .pointer (some ⟨w.heap.size + 1, 2, none⟩) from hd.get 13 25 (by kernel_rfl) (by kernel_rfl))
    have c0 := keep hb g2
    clear hs hd
    unfold Oper.wp
    generalize a'.eval = ρ at e1 ⊢
    simp [go_sem, e1, c0]
    exact hK _ _ (Below.refl _ _) rfl) <|
      allOps_cons (fun a' w' hb hs hd => rg_op fun K hK => by
    have e1 := (show a'.eval (.tmp 26) = .int .i64 ct from hd.get 14 26 (by kernel_rfl) (by kernel_rfl))
    have ec : ∀ v, a'.eval (.const v) = v := fun _ => rfl
    clear hs hd
    unfold Oper.wp
    generalize a'.eval = ρ at e1 ec ⊢
    simp [go_sem, e1, ec, hcm]
    exact hK _ _ (Below.refl _ _) rfl) <|
      allOps_cons (fun a' w' hb hs hd => by
    exact rg_fn (φ := (mpEq (.int .i64 T1)).p) (vs := #[.int .i64 cm, .pointer (some ⟨w.heap.size + 1, 0, none⟩)]) (show a'.eval (.tmp 24) = .func (.func 85) #[] #[.pointer (some ⟨w.heap.size + 1, 0, none⟩)] from hd.get 12 24 (by kernel_rfl) (by kernel_rfl)) (enters_of Tryz.func85 (by kernel_rfl) rfl) (by simp [(show a'.eval (.tmp 27) = .int .i64 cm from hd.get 15 27 (by kernel_rfl) (by kernel_rfl))]) ((windows1_any (w.heap.size + 1) cm fr st w' (keep hb g0) (keep hb g1)).mono (by rintro e w1 ⟨rfl, rfl⟩; exact ⟨_, rfl, Below.refl _ _, congrArg (Value.int .i64) hT1⟩))) <|
      allOps_cons (fun a' w' hb hs hd => rg_op fun K hK => by
    have e1 := (hs.get 2 (by kernel_rfl)).trans (show _ = Value.pointer (some ⟨w.heap.size, 0, none⟩) from rfl)
    clear hs hd
    unfold Oper.wp
    generalize a'.eval = ρ at e1 ⊢
    simp [go_sem, e1]
    exact hK _ _ (Below.refl _ _) rfl) <|
      allOps_cons (fun a' w' hb hs hd => rg_op fun K hK => by
    have e1 := (show a'.eval (.tmp 29) = .pointer (some ⟨w.heap.size, 4, none⟩) from hd.get 17 29 (by kernel_rfl) (by kernel_rfl))
    have c0 := keep hb a0
    have c1 := keep hb a1
    clear hs hd
    unfold Oper.wp
    generalize a'.eval = ρ at e1 ⊢
    simp [go_sem, e1, c0, c1]
    exact hK _ _ (Below.refl _ _) rfl) <|
      allOps_cons (fun a' w' hb hs hd => rg_op fun K hK => by
    have e1 := (hs.get 2 (by kernel_rfl)).trans (show _ = Value.pointer (some ⟨w.heap.size, 0, none⟩) from rfl)
    clear hs hd
    unfold Oper.wp
    generalize a'.eval = ρ at e1 ⊢
    simp [go_sem, e1]
    exact hK _ _ (Below.refl _ _) rfl) <|
      allOps_cons (fun a' w' hb hs hd => rg_op fun K hK => by
    have e1 := (show a'.eval (.tmp 31) = .pointer (some ⟨w.heap.size, 6, none⟩) from hd.get 19 31 (by kernel_rfl) (by kernel_rfl))
    have c0 := keep hb b0
    have c1 := keep hb b1
    clear hs hd
    unfold Oper.wp
    generalize a'.eval = ρ at e1 ⊢
    simp [go_sem, e1, c0, c1]
    exact hK _ _ (Below.refl _ _) rfl) <|
      allOps_cons (fun a' w' hb hs hd => rg_op fun K hK => by
    have e1 := (show a'.eval (.tmp 30) = .agg #[.slice SA na ca, .int .i64 da] from hd.get 18 30 (by kernel_rfl) (by kernel_rfl))
    have e2 := (show a'.eval (.tmp 32) = .agg #[.slice SB nb cb, .int .i64 db] from hd.get 20 32 (by kernel_rfl) (by kernel_rfl))
    clear hs hd
    unfold Oper.wp
    generalize a'.eval = ρ at e1 e2 ⊢
    simp [go_sem, e1, e2]
    exact hK _ _ ((Below.refl _ _).alloc (Nat.le_refl _) _) ⟨_, rfl, by simp [go_sem], by simp [go_sem], by simp [go_sem], by simp [go_sem]⟩) <|
      allOps_cons (fun a' w' hb hs hd => by
    exact rg_fn (φ := (mpChk (TV.err (⟨SA, na, ca, ka, da⟩ : TV) = 0 ∧ TV.err (⟨SB, nb, cb, kb, db⟩ : TV) = 0) (timesErr (⟨SA, na, ca, ka, da⟩ : TV) (⟨SB, nb, cb, kb, db⟩ : TV) T1)).p) (vs := #[.int .i64 T1, a'.eval (.tmp 33)]) rfl (enters_of Tryz.func53 (by kernel_rfl) rfl) (by simp [(show a'.eval (.tmp 28) = .int .i64 T1 from hd.get 16 28 (by kernel_rfl) (by kernel_rfl))]) (timeCheck_chk (⟨SA, na, ca, ka, da⟩ : TV) (⟨SB, nb, cb, kb, db⟩ : TV) T1 _ w' (HVA.out.below hb) (HVB.out.below hb) (hd.get 21 33 (by kernel_rfl) (by kernel_rfl)))) <|
      allOps_cons (fun a' w' hb hs hd => rg_op fun K hK => by
    have k0 : (mpChk (True) (vwErr (siteRes ux uy uz n k).2 (⟨SA, na, ca, ka, da⟩ : TV) (⟨SB, nb, cb, kb, db⟩ : TV))).p (a'.eval (.tmp 13)) w' := hd.get 1 13 (by kernel_rfl) (by kernel_rfl)
    have k1 : (mpChk (True) (grE st ct)).p (a'.eval (.tmp 15)) w' := hd.get 3 15 (by kernel_rfl) (by kernel_rfl)
    have k2 : (mpChk (TV.err (⟨SA, na, ca, ka, da⟩ : TV) = 0 ∧ TV.err (⟨SB, nb, cb, kb, db⟩ : TV) = 0) (timesErr (⟨SA, na, ca, ka, da⟩ : TV) (⟨SB, nb, cb, kb, db⟩ : TV) T0)).p (a'.eval (.tmp 23)) w' := hd.get 11 23 (by kernel_rfl) (by kernel_rfl)
    have k3 : (mpChk (TV.err (⟨SA, na, ca, ka, da⟩ : TV) = 0 ∧ TV.err (⟨SB, nb, cb, kb, db⟩ : TV) = 0) (timesErr (⟨SA, na, ca, ka, da⟩ : TV) (⟨SB, nb, cb, kb, db⟩ : TV) T1)).p (a'.eval (.tmp 34)) w' := hd.get 22 34 (by kernel_rfl) (by kernel_rfl)
    clear hs hd
    unfold Oper.wp
    generalize a'.eval = ρ at k0 k1 k2 k3 ⊢
    obtain ⟨g0, f0, e0, h0⟩ := k0
    obtain ⟨g1, f1, e1, h1⟩ := k1
    obtain ⟨g2, f2, e2, h2⟩ := k2
    obtain ⟨g3, f3, e3, h3⟩ := k3
    simp [go_sem, e0, e1, e2, e3]
    have hx := (Below.refl w'.heap.size w').alloc (Nat.le_refl _) (.cells #[.func (.func g0) #[] f0, .func (.func g1) #[] f1, .func (.func g2) #[] f2, .func (.func g3) #[] f3] 93)
    refine hK _ _ hx ⟨_, rfl, fun i => if i = 0 then .func (.func g0) #[] f0 else if i = 1 then .func (.func g1) #[] f1 else if i = 2 then .func (.func g2) #[] f2 else .func (.func g3) #[] f3, fun i hi => ?_, fun i hi => ?_⟩
    · rcases (by omega : i = 0 ∨ i = 1 ∨ i = 2 ∨ i = 3) with rfl | rfl | rfl | rfl <;> simp [go_sem]
    · rcases (by omega : i = 0 ∨ i = 1 ∨ i = 2 ∨ i = 3) with rfl | rfl | rfl | rfl
      · exact Chk.imp (Chk.on (show Chk (True) (vwErr (siteRes ux uy uz n k).2 (⟨SA, na, ca, ka, da⟩ : TV) (⟨SB, nb, cb, kb, db⟩ : TV)) (.func (.func g0) #[] f0) w' from ⟨g0, f0, rfl, h0⟩) hx) (fun _ => trivial)
      · exact Chk.imp (Chk.on (show Chk (True) (grE st ct) (.func (.func g1) #[] f1) w' from ⟨g1, f1, rfl, h1⟩) hx) (fun _ => trivial)
      · exact Chk.imp (Chk.on (show Chk (TV.err (⟨SA, na, ca, ka, da⟩ : TV) = 0 ∧ TV.err (⟨SB, nb, cb, kb, db⟩ : TV) = 0) (timesErr (⟨SA, na, ca, ka, da⟩ : TV) (⟨SB, nb, cb, kb, db⟩ : TV) T0) (.func (.func g2) #[] f2) w' from ⟨g2, f2, rfl, h2⟩) hx) (fun hz => (vw_0 (hz 0 (by omega))).2)
      · exact Chk.imp (Chk.on (show Chk (TV.err (⟨SA, na, ca, ka, da⟩ : TV) = 0 ∧ TV.err (⟨SB, nb, cb, kb, db⟩ : TV) = 0) (timesErr (⟨SA, na, ca, ka, da⟩ : TV) (⟨SB, nb, cb, kb, db⟩ : TV) T1) (.func (.func g3) #[] f3) w' from ⟨g3, f3, rfl, h3⟩) hx) (fun hz => (vw_0 (hz 0 (by omega))).2)) <|
      allOps_cons (fun a' w' hb hs hd => by
    exact rg_fn (φ := (mpEq (.int .i64 (wnErr (siteRes ux uy uz n k).2 (⟨SA, na, ca, ka, da⟩ : TV) (⟨SB, nb, cb, kb, db⟩ : TV) st ct T0 T1))).p) (vs := #[a'.eval (.tmp 35)]) rfl (enters_of Tryz.func51 (by kernel_rfl) rfl) (by simp) ((first_chks (n := 4) (er := (fun i => if i = 0 then vwErr (siteRes ux uy uz n k).2 (⟨SA, na, ca, ka, da⟩ : TV) (⟨SB, nb, cb, kb, db⟩ : TV) else if i = 1 then grE st ct else if i = 2 then timesErr (⟨SA, na, ca, ka, da⟩ : TV) (⟨SB, nb, cb, kb, db⟩ : TV) T0 else timesErr (⟨SA, na, ca, ka, da⟩ : TV) (⟨SB, nb, cb, kb, db⟩ : TV) T1)) (by omega) (by omega) (hd.get 23 35 (by kernel_rfl) (by kernel_rfl))).mono (by rintro e w1 ⟨rfl, h1⟩; exact ⟨_, rfl, h1, congrArg (Value.int .i64) (ferr_wn _ (⟨SA, na, ca, ka, da⟩ : TV) (⟨SB, nb, cb, kb, db⟩ : TV) st ct T0 T1)⟩))) <|
      allOps_cons (fun a' w' hb hs hd => rg_op fun K hK => by
    have e1 := (show a'.eval (.tmp 36) = .int .i64 (wnErr (siteRes ux uy uz n k).2 (⟨SA, na, ca, ka, da⟩ : TV) (⟨SB, nb, cb, kb, db⟩ : TV) st ct T0 T1) from hd.get 24 36 (by kernel_rfl) (by kernel_rfl))
    clear hs hd
    unfold Oper.wp
    generalize a'.eval = ρ at e1 ⊢
    simp [go_sem, e1]
    exact hK _ _ (Below.refl _ _) rfl) <| allOps_nil) (fun Q w1 hb hall => ?_)
  have h8 : Q 7 = .int .i64 (wnErr (siteRes ux uy uz n k).2 (⟨SA, na, ca, ka, da⟩ : TV) (⟨SB, nb, cb, kb, db⟩ : TV) st ct T0 T1) := hall.get 25 rfl
  clear hall
  simp only [mw0, maskPut, Nat.reduceAdd]
  rw [h8]
  clear h8
  replace u0 := keep hb u0
  replace u1 := keep hb u1
  replace u2 := keep hb u2
  replace u3 := keep hb u3
  replace a0 := keep hb a0
  replace a1 := keep hb a1
  replace b0 := keep hb b0
  replace b1 := keep hb b1
  replace g0 := keep hb g0
  replace g1 := keep hb g1
  replace g2 := keep hb g2
  replace BV := Lib.hid (belowT BV.out hb)
  clear hb HK HVA HVB
  have hq : ((wnErr (siteRes ux uy uz n k).2 (⟨SA, na, ca, ka, da⟩ : TV) (⟨SB, nb, cb, kb, db⟩ : TV) st ct T0 T1) != 0) = true := by simpa using HNE.out
  clear HNE
  generalize hEq : wnErr (siteRes ux uy uz n k).2 (⟨SA, na, ca, ka, da⟩ : TV) (⟨SB, nb, cb, kb, db⟩ : TV) st ct T0 T1 = E at hq ⊢
  have HEQ := Lib.hid hEq
  clear hEq
  go_wp2_with fail
  go_ret2
  exact ⟨by rw [HEQ.out]; rfl, BV.out⟩
end Go.Proofs.YtnfoagcpgegldaaGreat
namespace Go.Proofs.YtnfoagcpgegldaaGreat
open Go.RowKit Go.Shelf Go.Sort
attribute [local go_sem] idx3_0 idx3_1 idx3_2 old1 fro1 old2 fro2 old3 fro3 old4 fro4 old5 fro5 old6 fro6 old7 fro7 old8 fro8 old9 fro9 old10 fro10 old11 fro11 old12 fro12
set_option maxRecDepth 100000 in
set_option maxHeartbeats 800000 in
theorem gridErr_1 (ux uy uz : Int) (C SA SB : Option Addr) (n c na ca nb cb : Nat) (da db fr st ct : Int) (w : World) (hg : grE st ct ≠ 0) :
    Calls Tryz.prog 42 #[.agg #[.int .i64 ux, .int .i64 uy, .int .i64 uz, .slice C n c, .slice SA na ca, .int .i64 da, .slice SB nb cb, .int .i64 db], .agg #[.int .i64 fr, .int .i64 st, .int .i64 ct]] w fun e w' => e = .returned (.int .i64 (grE st ct)) ∧ Below w.heap.size w w' := by
  have H1 := fun W => bwithin_any st 1 10000 W
  have H2 := fun W => bwithin_any ct 1 200 W
  unfold grE at hg ⊢
  generalize wi st 1 10000 = x1 at *
  generalize wi ct 1 200 = x2 at *
  cases x1
  · clear hg
    go_enter Tryz.func42, Tryz.ntmps42
    go_wp2_with (go_at_call 26; (with_reducible refine Calls.mono (H1 _) ?_); rintro e w1 ⟨rfl, rfl⟩)
    go_ret
    exact ⟨rfl, by (repeat (first | with_reducible exact Below.refl _ _ | with_reducible assumption | with_reducible refine Below.alloc ?_ (by first | (simp; done) | (simp; omega) | omega) _ | with_reducible refine Below.setCell ?_ (by first | (simp; done) | (simp; omega) | omega) _ | with_reducible refine Below.drew ?_ | with_reducible refine below_drewN ?_ _))⟩
  · cases x2
    · clear hg
      go_enter Tryz.func42, Tryz.ntmps42
      go_wp2_with (first
        | (go_at_call 26; (with_reducible refine Calls.mono (H1 _) ?_); rintro e w1 ⟨rfl, rfl⟩)
        | (go_at_call 26; (with_reducible refine Calls.mono (H2 _) ?_); rintro e w1 ⟨rfl, rfl⟩))
      go_ret
      exact ⟨rfl, by (repeat (first | with_reducible exact Below.refl _ _ | with_reducible assumption | with_reducible refine Below.alloc ?_ (by first | (simp; done) | (simp; omega) | omega) _ | with_reducible refine Below.setCell ?_ (by first | (simp; done) | (simp; omega) | omega) _ | with_reducible refine Below.drew ?_ | with_reducible refine below_drewN ?_ _))⟩
    · exact absurd rfl hg
set_option maxRecDepth 100000 in
set_option maxHeartbeats 800000 in
theorem gridErr_2 (ux uy uz : Int) (C SA SB : Option Addr) (n c na ca nb cb : Nat) (da db fr st ct cm P T1 E0 E1 : Int) (ka kb : Nat → Knot) (w : World) (hA : KA w SA na ka) (hB : KA w SB nb kb) (hg : grE st ct = 0) (hcm : IntKind.i64.wrap (ct - 1) = cm) (hP : IntKind.i64.wrap (cm * st) = P) (hT1 : IntKind.i64.wrap (fr + P) = T1)
    (h0 : ∀ W, KA W SA na ka → KA W SB nb kb → Calls Tryz.prog 17 #[.agg #[.slice SA na ca, .int .i64 da], .agg #[.slice SB nb cb, .int .i64 db], .int .i64 fr] W fun e w' => e = .returned (.int .i64 E0) ∧ Below W.heap.size W w')
    (h1 : E0 = 0 → ∀ W, KA W SA na ka → KA W SB nb kb → Calls Tryz.prog 17 #[.agg #[.slice SA na ca, .int .i64 da], .agg #[.slice SB nb cb, .int .i64 db], .int .i64 T1] W fun e w' => e = .returned (.int .i64 E1) ∧ Below W.heap.size W w') :
    Calls Tryz.prog 42 #[.agg #[.int .i64 ux, .int .i64 uy, .int .i64 uz, .slice C n c, .slice SA na ca, .int .i64 da, .slice SB nb cb, .int .i64 db], .agg #[.int .i64 fr, .int .i64 st, .int .i64 ct]] w fun e w' => e = .returned (.int .i64 (if E0 = 0 then E1 else E0)) ∧ Below w.heap.size w w' := by
  have W1 := fun W => bwithin_any st 1 10000 W
  have W2 := fun W => bwithin_any ct 1 200 W
  obtain ⟨e1, e2⟩ : wi st 1 10000 = true ∧ wi ct 1 200 = true := by
    unfold grE at hg
    cases h1 : wi st 1 10000 <;> cases h2 : wi ct 1 200 <;> rw [h1, h2] at hg <;> simp at hg ⊢
  rw [e1] at W1
  rw [e2] at W2
  clear e1 e2 hg
  have HA := Lib.hid hA
  have HB := Lib.hid hB
  have H0 := Lib.hid h0
  clear hA hB h0
  by_cases hz : E0 = 0
  · have H1 := Lib.hid (h1 hz)
    rw [if_pos hz]
    subst hz
    clear h1
    go_enter Tryz.func42, Tryz.ntmps42
    go_wp2_with (first
      | (go_at_call 26; (with_reducible refine Calls.mono (W1 _) ?_); rintro e w1 ⟨rfl, rfl⟩)
      | (go_at_call 26; (with_reducible refine Calls.mono (W2 _) ?_); rintro e w1 ⟨rfl, rfl⟩)
      | (go_at_call 17; (with_reducible refine Calls.mono (H0.out _ (HA.out.bel (by (repeat (first | with_reducible exact Below.refl _ _ | with_reducible assumption | with_reducible refine Below.alloc ?_ (by first | (simp; done) | (simp; omega) | omega) _ | with_reducible refine Below.setCell ?_ (by first | (simp; done) | (simp; omega) | omega) _ | with_reducible refine Below.drew ?_ | with_reducible refine below_drewN ?_ _)))) (HB.out.bel (by (repeat (first | with_reducible exact Below.refl _ _ | with_reducible assumption | with_reducible refine Below.alloc ?_ (by first | (simp; done) | (simp; omega) | omega) _ | with_reducible refine Below.setCell ?_ (by first | (simp; done) | (simp; omega) | omega) _ | with_reducible refine Below.drew ?_ | with_reducible refine below_drewN ?_ _))))) ?_); rintro e w1 ⟨rfl, hb1⟩; have B1 := Lib.hid (belowT (show Below w.heap.size w _ by (repeat (first | with_reducible exact Below.refl _ _ | with_reducible assumption | with_reducible refine Below.alloc ?_ (by first | (simp; done) | (simp; omega) | omega) _ | with_reducible refine Below.setCell ?_ (by first | (simp; done) | (simp; omega) | omega) _ | with_reducible refine Below.drew ?_ | with_reducible refine below_drewN ?_ _))) hb1); have a0 := keep hb1 (b := w.heap.size) (o := 4) (v := .slice SA na ca) (by simp [go_sem]); have a1 := keep hb1 (b := w.heap.size) (o := 5) (v := .int .i64 da) (by simp [go_sem]); have b0 := keep hb1 (b := w.heap.size) (o := 6) (v := .slice SB nb cb) (by simp [go_sem]); have b1 := keep hb1 (b := w.heap.size) (o := 7) (v := .int .i64 db) (by simp [go_sem]); have g0 := keep hb1 (b := w.heap.size + 1) (o := 0) (v := .int .i64 fr) (by simp [go_sem]); have g1 := keep hb1 (b := w.heap.size + 1) (o := 1) (v := .int .i64 st) (by simp [go_sem]); have g2 := keep hb1 (b := w.heap.size + 1) (o := 2) (v := .int .i64 ct) (by simp [go_sem]); clear hb1)
      | (go_at_call 17; (with_reducible refine Calls.mono (H1.out _ (HA.out.bel B1.out) (HB.out.bel B1.out)) ?_); rintro e w2 ⟨rfl, hb2⟩; have B2 := Lib.hid (belowT B1.out hb2); clear hb2))
    go_ret
    exact ⟨rfl, B2.out⟩
  · rw [if_neg hz]
    have hq : (E0 != 0) = true := by simpa using hz
    clear h1 hz
    go_enter Tryz.func42, Tryz.ntmps42
    go_wp2_with (first
      | (go_at_call 26; (with_reducible refine Calls.mono (W1 _) ?_); rintro e w1 ⟨rfl, rfl⟩)
      | (go_at_call 26; (with_reducible refine Calls.mono (W2 _) ?_); rintro e w1 ⟨rfl, rfl⟩)
      | (go_at_call 17; (with_reducible refine Calls.mono (H0.out _ (HA.out.bel (by (repeat (first | with_reducible exact Below.refl _ _ | with_reducible assumption | with_reducible refine Below.alloc ?_ (by first | (simp; done) | (simp; omega) | omega) _ | with_reducible refine Below.setCell ?_ (by first | (simp; done) | (simp; omega) | omega) _ | with_reducible refine Below.drew ?_ | with_reducible refine below_drewN ?_ _)))) (HB.out.bel (by (repeat (first | with_reducible exact Below.refl _ _ | with_reducible assumption | with_reducible refine Below.alloc ?_ (by first | (simp; done) | (simp; omega) | omega) _ | with_reducible refine Below.setCell ?_ (by first | (simp; done) | (simp; omega) | omega) _ | with_reducible refine Below.drew ?_ | with_reducible refine below_drewN ?_ _))))) ?_); rintro e w1 ⟨rfl, hb1⟩; have B1 := Lib.hid (belowT (show Below w.heap.size w _ by (repeat (first | with_reducible exact Below.refl _ _ | with_reducible assumption | with_reducible refine Below.alloc ?_ (by first | (simp; done) | (simp; omega) | omega) _ | with_reducible refine Below.setCell ?_ (by first | (simp; done) | (simp; omega) | omega) _ | with_reducible refine Below.drew ?_ | with_reducible refine below_drewN ?_ _))) hb1); clear hb1))
    go_ret
    exact ⟨rfl, B1.out⟩
def SomeWin1 (w : World) (f : Nat → Int) (q : Nat) (e : Ending) (w' : World) : Prop := ∃ A c, e = .returned (.slice A (ws f q).m c) ∧ WinAt w' A f (ws f q) ∧ Below w.heap.size w w'
/-- the boxes of the view and the grid, and what was there before -/
def RW (w : World) (ux uy uz : Int) (C SA SB : Option Addr) (n c na ca nb cb : Nat) (da db fr st : Int) (q : Nat) (wr : World) : Prop :=
  Below w.heap.size w wr ∧ w.heap.size + 2 ≤ wr.heap.size ∧ (wr.cell? ⟨w.heap.size, 0, none⟩ = some (.int .i64 ux) ∧ wr.cell? ⟨w.heap.size, 1, none⟩ = some (.int .i64 uy) ∧ wr.cell? ⟨w.heap.size, 2, none⟩ = some (.int .i64 uz) ∧ wr.cell? ⟨w.heap.size, 3, none⟩ = some (.slice C n c) ∧ wr.cell? ⟨w.heap.size, 4, none⟩ = some (.slice SA na ca) ∧ wr.cell? ⟨w.heap.size, 5, none⟩ = some (.int .i64 da) ∧ wr.cell? ⟨w.heap.size, 6, none⟩ = some (.slice SB nb cb) ∧ wr.cell? ⟨w.heap.size, 7, none⟩ = some (.int .i64 db)) ∧ (wr.cell? ⟨w.heap.size + 1, 0, none⟩ = some (.int .i64 fr) ∧ wr.cell? ⟨w.heap.size + 1, 1, none⟩ = some (.int .i64 st) ∧ wr.cell? ⟨w.heap.size + 1, 2, none⟩ = some (.int .i64 q))
theorem RW.set {w : World} {ux uy uz : Int} {C SA SB : Option Addr} {n c na ca nb cb : Nat} {da db fr st : Int} {q : Nat} {wr : World} (h : RW w ux uy uz C SA SB n c na ca nb cb da db fr st q wr) {a : Addr} (ha : w.heap.size + 2 ≤ a.block) (v : Value) : RW w ux uy uz C SA SB n c na ca nb cb da db fr st q (wr.setCell a v) := by
  obtain ⟨hb, hs, ⟨h0, h1, h2, h3, h4, h5, h6, h7⟩, g0, g1, g2⟩ := h
  have e : ∀ b o u, b < w.heap.size + 2 → wr.cell? ⟨b, o, none⟩ = some u → (wr.setCell a v).cell? ⟨b, o, none⟩ = some u := fun b o u hlt hc => (World.cell?_setCell_other wr a ⟨b, o, none⟩ v (fun q => by rw [q] at ha; simp only at ha; omega)).trans hc
  exact ⟨hb.setCell (by omega) v, by simpa [World.setCell] using hs, ⟨e _ _ _ (by omega) h0, e _ _ _ (by omega) h1, e _ _ _ (by omega) h2, e _ _ _ (by omega) h3, e _ _ _ (by omega) h4, e _ _ _ (by omega) h5, e _ _ _ (by omega) h6, e _ _ _ (by omega) h7⟩, e _ _ _ (by omega) g0, e _ _ _ (by omega) g1, e _ _ _ (by omega) g2⟩
theorem RW.to {w : World} {ux uy uz : Int} {C SA SB : Option Addr} {n c na ca nb cb : Nat} {da db fr st : Int} {q : Nat} {wr w1 : World} (h : RW w ux uy uz C SA SB n c na ca nb cb da db fr st q wr) (hb1 : Below (w.heap.size + 2) wr w1) : RW w ux uy uz C SA SB n c na ca nb cb da db fr st q w1 := by
  obtain ⟨hb, hs, ⟨h0, h1, h2, h3, h4, h5, h6, h7⟩, g0, g1, g2⟩ := h
  have e : ∀ b o u, b < w.heap.size + 2 → wr.cell? ⟨b, o, none⟩ = some u → w1.cell? ⟨b, o, none⟩ = some u := fun b o u hlt hc => (hb1.cell (p := ⟨b, o, none⟩) hlt).trans hc
  exact ⟨hb.trans (hb1.mono (by omega)), Nat.le_trans hs hb1.size, ⟨e _ _ _ (by omega) h0, e _ _ _ (by omega) h1, e _ _ _ (by omega) h2, e _ _ _ (by omega) h3, e _ _ _ (by omega) h4, e _ _ _ (by omega) h5, e _ _ _ (by omega) h6, e _ _ _ (by omega) h7⟩, e _ _ _ (by omega) g0, e _ _ _ (by omega) g1, e _ _ _ (by omega) g2⟩
set_option maxRecDepth 100000 in
set_option maxHeartbeats 4000000 in
theorem rwindows_any (ux uy uz : Int) (C SA SB : Option Addr) (n c na ca nb cb : Nat) (k : Nat → Cone) (ka kb : Nat → Knot) (da db fr st : Int) (q : Nat) (f tt P : Nat → Int) (w : World) (_ : KC w C n k) (_ : KA w SA na ka) (_ : KA w SB nb kb) (hq2 : q ≤ 200) (hp : ∀ j : Nat, j < q → IntKind.i64.wrap ((j : Int) * st) = P j) (ht : ∀ j : Nat, j < q → IntKind.i64.wrap (fr + P j) = tt j)
    (hvis : ∀ j : Nat, j < q → ∀ W, Below w.heap.size w W → Calls Tryz.prog 40 #[.agg #[.int .i64 ux, .int .i64 uy, .int .i64 uz, .slice C n c, .slice SA na ca, .int .i64 da, .slice SB nb cb, .int .i64 db], .int .i64 (tt j)] W fun e w' => e = .returned (.int .i64 (f j)) ∧ Below W.heap.size W w') :
    Calls Tryz.prog 44 #[.agg #[.int .i64 ux, .int .i64 uy, .int .i64 uz, .slice C n c, .slice SA na ca, .int .i64 da, .slice SB nb cb, .int .i64 db], .agg #[.int .i64 fr, .int .i64 st, .int .i64 q]] w (SomeWin1 w f q) := by
  obtain ⟨i0, hi0, hz0, hz1, hz2⟩ := info_parts infoWin
  have HP0 := Lib.hid hp
  have HT0 := Lib.hid ht
  have HV0 := Lib.hid hvis
  clear hp ht hvis
  go_enter Tryz.func44, Tryz.ntmps44
  go_wp2_with fail
  go_loopw [5, 6] (fun s5 i wr => ∃ k : Nat, k ≤ q ∧ i = .int .i64 k ∧ RW w ux uy uz C SA SB n c na ca nb cb da db fr st q wr ∧ Hid (wr.ownsRow (w.heap.size + 2) 81 3 s5 (ws f k).m (winL f (ws f k)))) (fun _ i _ => q - (intOf i).toNat)
  case atStart => exact ⟨0, Nat.zero_le _, rfl, ⟨by (repeat (first | with_reducible exact Below.refl _ _ | with_reducible assumption | with_reducible refine Below.alloc ?_ (by first | (simp; done) | (simp; omega) | omega) _ | with_reducible refine Below.setCell ?_ (by first | (simp; done) | (simp; omega) | omega) _ | with_reducible refine Below.drew ?_ | with_reducible refine below_drewN ?_ _)), by simp, ⟨by simp [go_sem], by simp [go_sem], by simp [go_sem], by simp [go_sem], by simp [go_sem], by simp [go_sem], by simp [go_sem], by simp [go_sem]⟩, by simp [go_sem], by simp [go_sem], by simp [go_sem]⟩, World.ownsRow_nil _ _ _ _⟩
  case round =>
    obtain ⟨p, hp, rfl, hR, HO⟩ := hrel
    have HR0 := Lib.hid hR
    have HBR := Lib.hid hR.1
    obtain ⟨hb, hs2, ⟨u0, u1, u2, u3, a0, a1, b0, b1⟩, g0, g1, g2⟩ := hR
    by_cases hlt : p < q
    · have m1 := HP0.out p hlt
      have m2 := HT0.out p hlt
      have HV := Lib.hid (HV0.out p hlt)
      have HN : Hid (ws f (p + 1) = if wsNew f (ws f p) p then wsAdd (ws f p) p else wsExt (ws f p) p) := rfl
      have hok := ws_ok f p
      generalize ws f p = S at HN HO hok
      have hm2 : S.m ≤ 200 := by have := hok.le; omega
      clear hok
      generalize P p = pp at *
      generalize tt p = tp at *
      by_cases hm : S.m = 0
      · obtain ⟨A8, c8, rfl⟩ := own_slice HO.out
        have HNW : Hid (ws f (p + 1) = wsAdd S p) := by rw [HN.out, if_pos (show wsNew f S p from Or.inl hm)]; exact Lib.hid rfl
        have z : decide (0 < S.m) = false := by simp [hm]
        have z2 : decide ((0 : Int) < (S.m : Int)) = false := by simp [hm]
        clear hm HN hb
        go_wp2_with (first
          | (go_at_call 40; (with_reducible refine Calls.mono (HV.out _ HBR.out) ?_); rintro e w1 ⟨rfl, hb1⟩; replace u0 := keep hb1 u0; replace u1 := keep hb1 u1; replace u2 := keep hb1 u2; replace u3 := keep hb1 u3; replace a0 := keep hb1 a0; replace a1 := keep hb1 a1; replace b0 := keep hb1 b0; replace b1 := keep hb1 b1; replace g0 := keep hb1 g0; replace g1 := keep hb1 g1; replace g2 := keep hb1 g2; have HR1 := Lib.hid (HR0.out.to (hb1.mono HR0.out.2.1)); have HO1 := Lib.hid (own_bel HO.out hb1); have hs1 := HR1.out.2.1; clear hb1 HO)
          | (at_builtin; go_loud (refine wpList_append_own_at _ rfl _ _ 74 rfl (w.heap.size + 2) 81 i0 _ 3 24 undWins hi0 hz0 hz1 hz2 rfl (by decide) (.slice A8 S.m c8) _ _ rfl (HO1.out.alloc _) ⟨w1.heap.size, 0, none⟩ 1 1 [.int .i64 (f p), .int .i64 p, .int .i64 p] rfl rfl (news3 _ _ _ _ _) (by simp [Value.oneCell']) (by unfold maxLen; omega) (by omega) (by simp; omega) ?_; intro v' w5 hown' hgrow hnil hloc; have HO5 := Lib.hid hown'; have HR5 := Lib.hid (HR1.out.to (((Below.refl (w.heap.size + 2) w1).alloc hs1 _).grown hgrow (by simp; omega) (fun i hi => (HO1.out.lt i hi).1))); clear hown' hgrow hnil hloc)))
        go_roundw
        case rel => exact ⟨p + 1, by omega, by go_num, HR5.out, by rw [HNW.out, <- winL_add2]; exact HO5.out⟩
        case measure => simp [intOf]; omega
      · have h0 : 0 < S.m := by omega
        obtain ⟨g8, c8, rfl, l0', l2', f2', p1, p2, p3, p4⟩ := last_own h0 hm2 HO.out
        have hg8 : w.heap.size + 2 ≤ g8 := g_ge HO.out
        have z : decide (0 < S.m) = true := by simpa using h0
        have z2 : decide ((0 : Int) < (S.m : Int)) = true := by simpa using h0
        by_cases hy : f (S.F (S.m - 1)) = f p
        · have HNW : Hid (ws f (p + 1) = wsExt S p) := by rw [HN.out, if_neg (show ¬ wsNew f S p by rintro (h | h); exact hm h; exact h hy)]; exact Lib.hid rfl
          rw [hy] at l0'
          have hy2 : (f p == f p) = true := by simp
          clear hm HN hb hy
          go_wp2_with (first
            | (go_at_call 40; (with_reducible refine Calls.mono (HV.out _ HBR.out) ?_); rintro e w1 ⟨rfl, hb1⟩; replace u0 := keep hb1 u0; replace u1 := keep hb1 u1; replace u2 := keep hb1 u2; replace u3 := keep hb1 u3; replace a0 := keep hb1 a0; replace a1 := keep hb1 a1; replace b0 := keep hb1 b0; replace b1 := keep hb1 b1; replace g0 := keep hb1 g0; replace g1 := keep hb1 g1; replace g2 := keep hb1 g2; have HR1 := Lib.hid (HR0.out.to (hb1.mono HR0.out.2.1)); have HO1 := Lib.hid (own_bel HO.out hb1); have hs1 := HR1.out.2.1; have l0 := keep hb1 l0'; have l2 := keep hb1 l2'; have fz := (hb1.frozen (p := ⟨g8, (S.m - 1) * 3 + 2, none⟩) (lt_of l2')).trans f2'; clear hb1 HO)
            | fail)
          go_roundw
          case rel => exact ⟨p + 1, by omega, by go_num, HR1.out.set (by exact hg8) _, by rw [HNW.out]; exact step_ext h0 HO1.out⟩
          case measure => simp [intOf]; omega
        · have HNW : Hid (ws f (p + 1) = wsAdd S p) := by rw [HN.out, if_pos (show wsNew f S p from Or.inr hy)]; exact Lib.hid rfl
          have hy2 : (f (S.F (S.m - 1)) == f p) = false := by simpa using hy
          generalize f (S.F (S.m - 1)) = y at *
          obtain ⟨A8, hA8⟩ : ∃ A8 : Option Addr, A8 = some ⟨g8, 0, none⟩ := ⟨_, rfl⟩
          clear hm HN hb hy
          go_wp2_with (first
            | (go_at_call 40; (with_reducible refine Calls.mono (HV.out _ HBR.out) ?_); rintro e w1 ⟨rfl, hb1⟩; replace u0 := keep hb1 u0; replace u1 := keep hb1 u1; replace u2 := keep hb1 u2; replace u3 := keep hb1 u3; replace a0 := keep hb1 a0; replace a1 := keep hb1 a1; replace b0 := keep hb1 b0; replace b1 := keep hb1 b1; replace g0 := keep hb1 g0; replace g1 := keep hb1 g1; replace g2 := keep hb1 g2; have HR1 := Lib.hid (HR0.out.to (hb1.mono HR0.out.2.1)); have HO1 := Lib.hid (own_bel HO.out hb1); have hs1 := HR1.out.2.1; have l0 := keep hb1 l0'; clear hb1 HO)
            | (at_builtin; go_loud (refine wpList_append_own_at _ rfl _ _ 74 rfl (w.heap.size + 2) 81 i0 _ 3 24 undWins hi0 hz0 hz1 hz2 rfl (by decide) (.slice (some ⟨g8, 0, none⟩) S.m c8) _ _ rfl (HO1.out.alloc _) ⟨w1.heap.size, 0, none⟩ 1 1 [.int .i64 (f p), .int .i64 p, .int .i64 p] rfl rfl (news3 _ _ _ _ _) (by simp [Value.oneCell']) (by unfold maxLen; omega) (by omega) (by simp; omega) ?_; intro v' w5 hown' hgrow hnil hloc; have HO5 := Lib.hid hown'; have HR5 := Lib.hid (HR1.out.to (((Below.refl (w.heap.size + 2) w1).alloc hs1 _).grown hgrow (by simp; omega) (fun i hi => (HO1.out.lt i hi).1))); clear hown' hgrow hnil hloc)))
          go_roundw
          case rel => exact ⟨p + 1, by omega, by go_num, HR5.out, by rw [HNW.out, <- winL_add2]; exact HO5.out⟩
          case measure => simp [intOf]; omega
    · obtain rfl : p = q := by omega
      obtain ⟨e1, e2⟩ := own_win HO.out
      generalize sA u5 = A5 at *
      generalize sC u5 = C5 at *
      subst e1
      have HW := Lib.hid e2
      clear e2 HO
      go_wp2_with fail
      go_ret
      exact ⟨A5, C5, rfl, HW.out, hb⟩
set_option maxRecDepth 100000 in
set_option maxHeartbeats 800000 in
theorem sameWindows_any (A B : Option Addr) (ca cb : Nat) (f : Nat → Int) (S : WS) (w : World) (hm : S.m ≤ 1000000) (hA : WinAt w A f S) (hB : WinAt w B f S) :
    Calls Tryz.prog 43 #[.slice A S.m ca, .slice B S.m cb] w fun e w' => e = .returned (.bool true) ∧ Below w.heap.size w w' := by
  have HA := Lib.hid hA
  have HB := Lib.hid hB
  clear hA hB
  go_enter Tryz.func43, Tryz.ntmps43
  go_wp2_with fail
  go_loopw [5] (fun i wr => ∃ k : Nat, k ≤ S.m ∧ i = .int .i64 k ∧ Below w.heap.size w wr) (fun i _ => S.m - (intOf i).toNat)
  case atStart => exact ⟨0, Nat.zero_le _, rfl, Below.refl _ _⟩
  case round =>
    obtain ⟨k, hk, rfl, hb⟩ := hrel
    by_cases hlt : k < S.m
    · obtain ⟨gA, rfl, cA⟩ := HA.out (by omega)
      obtain ⟨gB, rfl, cB⟩ := HB.out (by omega)
      obtain ⟨x0, x1, x2⟩ := cA k hlt
      obtain ⟨y0, y1, y2⟩ := cB k hlt
      replace x0 := keep hb x0
      replace x1 := keep hb x1
      replace x2 := keep hb x2
      replace y0 := keep hb y0
      replace y1 := keep hb y1
      replace y2 := keep hb y2
      clear cA cB HA HB
      have p1 : (0 : Int) ≤ (k : Int) := by omega
      have p2 : (k : Int) < (S.m : Int) := by omega
      have HBB := Lib.hid hb
      clear hb
      go_wp2_with fail
      go_quiet (fail)
      go_wp2_with fail
      go_roundw
      case rel => exact ⟨k + 1, by omega, by go_num, below_drewN HBB.out _⟩
      case measure => simp [intOf]; omega
    · obtain rfl : k = S.m := by omega
      go_wp2_with fail
      go_ret
      exact ⟨rfl, hb⟩
end Go.Proofs.YtnfoagcpgegldaaGreat
