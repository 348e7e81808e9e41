/- The statement PathMotionsSaid: whatever the drive and the targets, the law PathMotions returns true, and its arguments read afterwards as before. -/
import Derived.Test.YtmhcmiajikffpaaB24
import Derived.Test.YtmhcmiajikffpaaB02
import Derived.ProofKit
import Derived.OpenShut
import Derived.ShutString
import Derived.ChangeOld
import Derived.Below
import Derived.Lib.SmallJoins
namespace Go.Proofs.Ytmhcmiajikffpaa
open Go.RowKit Go.Shelf Go.Sort
attribute [local go_sem] idx3_0 idx3_1 idx3_2 old1 fro1 old2 fro2 old3 fro3 old4 fro4 old5 fro5 old6 fro6 old7 fro7 old8 fro8 old9 fro9 old10 fro10 old11 fro11 old12 fro12
set_option maxRecDepth 100000 in
set_option maxHeartbeats 800000 in
theorem roomy_bad (t lo hi st ra : Int) (w : World) (hd : driveErr t lo hi st ra ≠ 0) :
    Calls Try.prog 17 #[.agg #[.int .i64 t, .int .i64 lo, .int .i64 hi, .int .i64 st, .int .i64 ra]] w fun e w' => e = .returned (.bool true) ∧ Below w.heap.size w w' := by
  have HD := fun W => Lib.hid (rdriveErr_any t lo hi st ra W)
  have g1 : (driveErr t lo hi st ra != 0) = true := by simp [hd]
  clear hd
  generalize driveErr t lo hi st ra = D at *
  go_enter Try.func17, Try.ntmps17
  go_wp2_with (go_at_call 22; (with_reducible refine Calls.mono (HD _).out ?_); rintro e w1 ⟨rfl, hb1⟩; have B1 := Lib.hid (thenB (show Below w.heap.size w _ by (repeat (first | with_reducible exact Below.refl _ _ | with_reducible assumption | with_reducible refine Below.alloc ?_ (by first | (simp; done) | (simp; omega) | omega) _ | with_reducible refine Below.setCell ?_ (by first | (simp; done) | (simp; omega) | omega) _ | with_reducible refine Below.drew ?_ | with_reducible refine below_drewN ?_ _))) hb1); clear hb1)
  go_ret
  exact ⟨rfl, B1.out⟩
theorem ia_0 {w : World} {A : Option Addr} {ys : Nat → Int} : IA w A 0 ys := fun h => absurd h (Nat.lt_irrefl 0)
theorem pt_bad (t lo hi st ra : Int) (n : Nat) (xs ys : Nat → Int) (hn : n ≤ 9223372036854775807) (D : Int) (hE : ptErr t lo hi st ra n xs = D) (hD : D ≠ 0) (W : World) (A' : Option Addr) (c' : Nat) (hA : IA W A' n xs) :
    Calls Try.prog 19 #[.agg #[.int .i64 t, .int .i64 lo, .int .i64 hi, .int .i64 st, .int .i64 ra], .slice A' n c'] W fun e w' => ∃ A2 c2, e = .returned (.tuple #[.slice A2 0 c2, .int .i64 0, .int .i64 D]) ∧ IA w' A2 0 ys ∧ Below W.heap.size W w' := by
  subst hE
  refine (pointing_any t lo hi st ra A' n c' xs W hn hA).mono ?_
  rintro e w' ⟨hb, h1, _⟩
  exact ⟨none, 0, h1 hD, ia_0, hb⟩
theorem mr_bad (t lo hi st ra : Int) (n : Nat) (xs : Nat → Int) (hn : n ≤ 9223372036854775807) (D : Int) (hE : ptErr t lo hi st ra n xs = D) (hD : D ≠ 0) (W : World) (A' : Option Addr) (c' : Nat) (hA : IA W A' n xs) :
    Calls Try.prog 21 #[.agg #[.int .i64 t, .int .i64 lo, .int .i64 hi, .int .i64 st, .int .i64 ra], .slice A' n c'] W fun e w' => e = .returned (.tuple #[.int .i64 0, .int .i64 D]) ∧ Below W.heap.size W w' := by
  subst hE
  refine (minimumRate_any t lo hi st ra A' n c' xs W hn hA).mono ?_
  rintro e w' ⟨hb, ⟨_, rfl⟩ | ⟨h0, _⟩⟩
  · exact ⟨rfl, hb⟩
  · exact absurd h0 hD
theorem follow_out {t lo hi ra : Int} {n : Nat} {xs : Nat → Int} (k0 : Nat) : ∀ (r i : Nat), n - i = r → follow t lo hi ra (tlR n xs i) (nxR (rwR t lo hi ra n xs) k0 i) = (List.range' i r).map (outR (rwR t lo hi ra n xs) k0)
  | 0, i, h => by
    unfold tlR
    rw [h]
    rfl
  | r + 1, i, h => by
    have hi' : i < n := by omega
    have ih := follow_out (t := t) (lo := lo) (hi := hi) (ra := ra) (n := n) (xs := xs) k0 r (i + 1) (by omega)
    rw [List.range'_succ, List.map_cons, tlR_s hi', ← ih]
    show ((rowR t lo hi ra (xs i :: tlR n xs (i + 1))).getD _ St0).a :: follow t lo hi ra (tlR n xs (i + 1)) ((rowR t lo hi ra (xs i :: tlR n xs (i + 1))).getD _ St0).nx = _
    rw [← tlR_s hi']
    rfl
theorem out_pL {t lo hi ra st : Int} {n : Nat} {xs : Nat → Int} {k0 : Nat} (h : follow t lo hi ra ((List.range n).map xs) k0 = (List.range n).map (pL t lo hi st ra n xs)) (i : Nat) (hi' : i < n) : outR (rwR t lo hi ra n xs) k0 i = pL t lo hi st ra n xs i := by
  have e := follow_out (t := t) (lo := lo) (hi := hi) (ra := ra) (n := n) (xs := xs) k0 n 0 (by omega)
  rw [tlR_0] at e
  have e2 : (List.range' 0 n).map (outR (rwR t lo hi ra n xs) k0) = (List.range n).map (pL t lo hi st ra n xs) := e.symm.trans h
  rw [← List.range_eq_range'] at e2
  have e3 := congrArg (fun l => l[i]?) e2
  simpa [hi'] using e3
theorem pathMotions_any (t lo hi st ra : Int) (A : Option Addr) (n c : Nat) (xs : Nat → Int) (w : World) (hn : n ≤ 9223372036854775807) (hA0 : A = none → n = 0 ∧ c = 0) (hA : IA w A n xs) :
    Calls Try.prog 4 #[.agg #[.int .i64 t, .int .i64 lo, .int .i64 hi, .int .i64 st, .int .i64 ra], .slice A n c] w fun e w' => e = .returned (.bool true) ∧ Below w.heap.size w w' := by
  have CDp := fun W => checkDrive_any t lo hi st ra W
  have DEr := fun W => rdriveErr_any t lo hi st ra W
  have CIc : n ≤ 42 → ∀ W, IA W A n xs → Calls Try.prog 20 #[.slice A n c] W fun e w' => ∃ A' c', e = .returned (.slice A' n c') ∧ IA w' A' n xs ∧ Below W.heap.size W w' := fun h W hW => copyInts_any A n c xs W (by omega) hA0 hW
  by_cases hd : driveErr t lo hi st ra = 0
  · have RMy := fun W => roomy_any t lo hi st ra W hd
    rw [hd] at CDp DEr
    cases hq : decide ((hi - lo).tdiv t ≤ 10) with
    | false =>
      rw [hq] at RMy
      exact pm_e1 t lo hi st ra A n c xs w hA RMy
    | true =>
      rw [hq] at RMy
      obtain ⟨⟨t1, t2⟩, ⟨l1, l2⟩, ⟨h1, h2⟩, ⟨r0, r1⟩, f1, f2⟩ := drive_ok hd
      rcases Nat.lt_or_ge 42 n with q42 | q42
      · exact pm_e3 t lo hi st ra A n c xs w hA q42 hn RMy
      · have TEr : ∀ W, IA W A n xs → _ := fun W hW => rtargetsErr_any t lo hi st ra A n c xs W (by omega) t1 t2 hW
        rcases Nat.lt_or_ge 40 n with q40 | q40
        · have hT : tgErr n xs t ≠ 0 := by
            unfold tgErr
            rw [if_neg (by simp; omega)]
            decide
          exact pm_t2 (ys := xs) t lo hi st ra A n c xs w hA (by omega) q42 RMy CDp (CIc q42) (fun W A' c' hW => pt_bad t lo hi st ra n xs xs hn _ (pe_0 hd) hT W A' c' hW) (fun W A' c' hW => mr_bad t lo hi st ra n xs hn _ (pe_0 hd) hT W A' c' hW) DEr TEr hT
        · rcases Nat.lt_or_ge 12 n with q12 | q12
          · exact pm_e2 t lo hi st ra A n c xs w hA q12 q40 RMy
          · by_cases hT : tgErr n xs t = 0
            · have h : ptErr t lo hi st ra n xs = 0 := (pe_0 hd).trans hT
              obtain ⟨_, _, hx⟩ := pt_ok h
              rw [hT] at TEr
              obtain ⟨rr, G, hG, MRp⟩ := rate_fix2 t lo hi st ra n xs h
              have RRr : ∀ W, IA W A n xs → Calls Try.prog 26 #[.agg #[.int .i64 t, .int .i64 lo, .int .i64 hi, .int .i64 st, .int .i64 ra], .slice A n c] W (SomeRR t lo hi st n xs W) := fun W hW => rminimumRate_any t lo hi st ra A n c xs W hd (by omega) hx hW
              obtain ⟨b1, b2⟩ := rb_best (ra := ra) (n := n) (xs := xs) t1 t2 l1 h2 f1 f2
              have RPr := fun W (hW : IA W A n xs) => rpointing_x t lo hi st ra A n c xs W (by omega) hW (fun i hi' => ⟨(hx i hi').1, by have := (hx i hi').2; omega⟩) t1 t2 l1 l2 h1 h2 f1 f2 r0 r1 _ rfl
              have RRn : okB t lo hi st n xs 40000 = false → ∀ W, IA W A n xs → Calls Try.prog 26 #[.agg #[.int .i64 t, .int .i64 lo, .int .i64 hi, .int .i64 st, .int .i64 ra], .slice A n c] W fun e w' => e = .returned (.tuple #[.int .i64 0, .bool false]) ∧ Below W.heap.size W w' := fun h4 W hW => (RRr W hW).mono (by
                rintro e w' ⟨hb, ⟨_, rfl⟩ | ⟨r, q0, q1, q2, _, _⟩⟩
                · exact ⟨rfl, hb⟩
                · rw [ok_mono h q2 q1] at h4; cases h4)
              have RRy : 0 ≤ rr → rr ≤ 40000 → okB t lo hi st n xs rr = true → (rr = 0 ∨ okB t lo hi st n xs (rr - 1) = false) → ∀ W, IA W A n xs → Calls Try.prog 26 #[.agg #[.int .i64 t, .int .i64 lo, .int .i64 hi, .int .i64 st, .int .i64 ra], .slice A n c] W fun e w' => e = .returned (.tuple #[.int .i64 rr, .bool true]) ∧ Below W.heap.size W w' := fun g0 g1 g2 g3 W hW => (RRr W hW).mono (by
                rintro e w' ⟨hb, ⟨h4, _⟩ | ⟨r, q0, q1, q2, q3, rfl⟩⟩
                · rw [ok_mono h g2 g1] at h4; cases h4
                · have e : r = rr := by
                    rcases Int.lt_trichotomy r rr with z | z | z
                    · rcases g3 with y | y
                      · omega
                      · rw [ok_mono h q2 (show r ≤ rr - 1 by omega)] at y; cases y
                    · exact z
                    · rcases q3 with y | y
                      · omega
                      · rw [ok_mono h g2 (show rr ≤ r - 1 by omega)] at y; cases y
                  rw [e]
                  exact ⟨rfl, hb⟩)
              cases hok : okB t lo hi st n xs ra with
              | false =>
                have RPn : ∀ W, IA W A n xs → Calls Try.prog 24 #[.agg #[.int .i64 t, .int .i64 lo, .int .i64 hi, .int .i64 st, .int .i64 ra], .slice A n c] W fun e w' => ∃ A3 c3, e = .returned (.tuple #[.slice A3 0 c3, .int .i64 0, .bool false]) ∧ IA w' A3 0 xs ∧ Below W.heap.size W w' := fun W hW => (RPr W hW).mono (by
                  rintro e w' ⟨hb, ⟨_, rfl⟩ | ⟨s, v, h3, _, _⟩⟩
                  · exact ⟨none, 0, rfl, ia_0, hb⟩
                  · rw [(b2 s h3).1] at hok; cases hok)
                have PTn : ∀ W A' c', IA W A' n xs → Calls Try.prog 19 #[.agg #[.int .i64 t, .int .i64 lo, .int .i64 hi, .int .i64 st, .int .i64 ra], .slice A' n c'] W fun e w' => ∃ A2 c2, e = .returned (.tuple #[.slice A2 0 c2, .int .i64 0, .int .i64 12]) ∧ IA w' A2 0 xs ∧ Below W.heap.size W w' := fun W A' c' hW => (point_no t lo hi st ra n xs h hok W A' c' hW).mono (by
                  rintro e w' ⟨rfl, hb⟩
                  exact ⟨none, 0, rfl, ia_0, hb⟩)
                rcases hG with ⟨rfl, rfl, h4⟩ | ⟨rfl, g0, g1, g2, g3⟩
                · exact pm_nn (ys := xs) t lo hi st ra A n c xs w hA q12 RMy CDp (CIc q42) PTn MRp DEr TEr RPn (RRn h4)
                · exact pm_ny (ys := xs) t lo hi st ra A n c xs w hA q12 RMy CDp (CIc q42) PTn MRp DEr TEr RPn (RRy g0 g1 g2 g3)
              | true =>
                have RPy : ∀ W, IA W A n xs → Calls Try.prog 24 #[.agg #[.int .i64 t, .int .i64 lo, .int .i64 hi, .int .i64 st, .int .i64 ra], .slice A n c] W fun e w' => ∃ A3 c3, e = .returned (.tuple #[.slice A3 n c3, .int .i64 (pTrv t lo hi st ra n xs n), .bool true]) ∧ IA w' A3 n (pL t lo hi st ra n xs) ∧ Below W.heap.size W w' := fun W hW => (RPr W hW).mono (by
                  rintro e w' ⟨hb, ⟨h3, _⟩ | ⟨s, v, h3, rfl, hv⟩⟩
                  · rw [b1 h3] at hok; cases hok
                  · obtain ⟨_, a2, a3⟩ := b2 s h3
                    obtain ⟨e1, e2⟩ := own_intsV hv
                    exact ⟨sA v, sC v, by rw [a2, ← e1], e2.same fun i hi' => out_pL a3 i hi', hb⟩)
                have PTy : ∀ W A' c', IA W A' n xs → Calls Try.prog 19 #[.agg #[.int .i64 t, .int .i64 lo, .int .i64 hi, .int .i64 st, .int .i64 ra], .slice A' n c'] W fun e w' => ∃ A2 c2, e = .returned (.tuple #[.slice A2 n c2, .int .i64 (pTrv t lo hi st ra n xs n), .int .i64 0]) ∧ IA w' A2 n (pL t lo hi st ra n xs) ∧ Below W.heap.size W w' := fun W A' c' hW => (point_yes t lo hi st ra n xs h hok W A' c' hW).mono (by
                  rintro e w' ⟨A3, c3, he, hi3, _, hb⟩
                  exact ⟨A3, c3, he, hi3, hb⟩)
                have INy : ∀ W A1 c1 A2 c2, IA W A1 n (pL t lo hi st ra n xs) → IA W A2 n (pL t lo hi st ra n xs) → Calls Try.prog 25 #[.slice A1 n c1, .slice A2 n c2] W fun e w' => e = .returned (.bool true) ∧ Below W.heap.size W w' := fun W A1 c1 A2 c2 g1 g2 => (ints_any A1 A2 n c1 n c2 _ _ W (by omega) g1 g2).mono (by
                  rintro e w' ⟨rfl, hb⟩
                  exact ⟨ret_bool (by simp), hb⟩)
                rcases hG with ⟨rfl, rfl, h4⟩ | ⟨rfl, g0, g1, g2, g3⟩
                · exact pm_yn t lo hi st ra A n c xs w hA q12 RMy CDp (CIc q42) PTy MRp DEr TEr RPy (RRn h4) INy
                · exact pm_yy t lo hi st ra A n c xs w hA q12 RMy CDp (CIc q42) PTy MRp DEr TEr RPy (RRy g0 g1 g2 g3) INy
            · exact pm_t1 (ys := xs) t lo hi st ra A n c xs w hA q12 RMy CDp (CIc q42) (fun W A' c' hW => pt_bad t lo hi st ra n xs xs hn _ (pe_0 hd) hT W A' c' hW) (fun W A' c' hW => mr_bad t lo hi st ra n xs hn _ (pe_0 hd) hT W A' c' hW) DEr TEr hT
  · have RMb := fun W => roomy_bad t lo hi st ra W hd
    have pb := fun W A' c' (hW : IA W A' n xs) => pt_bad t lo hi st ra n xs xs hn _ (pe_1 hd) hd W A' c' hW
    have mb := fun W A' c' (hW : IA W A' n xs) => mr_bad t lo hi st ra n xs hn _ (pe_1 hd) hd W A' c' hW
    rcases Nat.lt_or_ge 42 n with q42 | q42
    · exact pm_e3 t lo hi st ra A n c xs w hA q42 hn RMb
    · rcases Nat.lt_or_ge 40 n with q40 | q40
      · exact pm_d2 (ys := xs) t lo hi st ra A n c xs w hA (by omega) q42 RMb CDp (CIc q42) pb mb DEr hd
      · rcases Nat.lt_or_ge 12 n with q12 | q12
        · exact pm_e2 t lo hi st ra A n c xs w hA q12 q40 RMb
        · exact pm_d1 (ys := xs) t lo hi st ra A n c xs w hA q12 RMb CDp (CIc q42) pb mb DEr hd
end Go.Proofs.Ytmhcmiajikffpaa
namespace Go.Proofs.Ytmhcmiajikffpaa
open Go.ChangeShapes Go.WideShapes Go.ChangeAt Go.RowKit
theorem own : ownKnob Try.prog.godebug = none := by kernel_rfl
theorem laidOut : laidOutB Try.prog = true := by kernel_rfl
theorem array5 {α : Type} {cs : Array α} (h : cs.size = 5) : ∃ c0 c1 c2 c3 c4, cs = #[c0, c1, c2, c3, c4] := by
  obtain ⟨l⟩ := cs
  match l, h with
  | [c0, c1, c2, c3, c4], _ => exact ⟨c0, c1, c2, c3, c4, rfl⟩
theorem cellsInt : Try.prog.cellsOf 3 = 1 := by kernel_rfl
theorem cellsRange : Try.prog.cellsOf 36 = 2 := by kernel_rfl
theorem cellsDrive : Try.prog.cellsOf 47 = 5 := by kernel_rfl
set_option maxRecDepth 100000 in
theorem open_drive {H : Type} {enc : TypeId × Value → H} {w : World} {base : Nat} {sp : Nat → Bool} {held : Bool} {r : Reach} {b0 : Nat} {v : Value} {d : DataW H} {p : List MemPlace} (hv : Value.okWide Try.prog w r b0 47 v) (h : DataW.Trod enc Try.prog w base sp held 47 v d p) :
    ∃ t lo hi st ra : Int, v = .agg #[.int .i64 t, .int .i64 lo, .int .i64 hi, .int .i64 st, .int .i64 ra] := by
  obtain ⟨cs, rfl, hsz⟩ := okWide_struct Try.underlying47 hv
  obtain ⟨c0, c1, c2, c3, c4, rfl⟩ := array5 (hsz.trans cellsDrive)
  obtain ⟨fuel, hf⟩ := h
  obtain ⟨xs, n, _, hx, hl, hlen, hg⟩ := DataW.trod_struct Try.underlying47 hf
  match xs, hlen with
  | [y0, y1, y2, y3], _ =>
    have h0 := hg 0 _ rfl
    have h1 := hg 1 _ rfl
    have h2 := hg 2 _ rfl
    have h3 := hg 3 _ rfl
    simp [cellsInt, cellsRange, Value.cells] at h0 h1 h2 h3
    obtain ⟨t, e0, _, _⟩ := DataW.trod_int Try.underlying3 h0
    obtain ⟨st, e3, _, _⟩ := DataW.trod_int Try.underlying3 h2
    obtain ⟨ra, e4, _, _⟩ := DataW.trod_int Try.underlying3 h3
    obtain ⟨zs, n2, _, hz, _, hzl, hzg⟩ := DataW.trod_struct Try.underlying36 h1
    match zs, hzl with
    | [z0, z1], _ =>
      have g0 := hzg 0 _ rfl
      have g1 := hzg 1 _ rfl
      simp [cellsInt] at g0 g1
      obtain ⟨lo, e1, _, _⟩ := DataW.trod_int Try.underlying3 g0
      obtain ⟨hi, e2, _, _⟩ := DataW.trod_int Try.underlying3 g1
      simp at e0 e1 e2 e3 e4
      subst e0 e1 e2 e3 e4
      exact ⟨t, lo, hi, st, ra, rfl⟩
set_option maxRecDepth 100000 in
theorem open_list {H : Type} {enc : TypeId × Value → H} {w : World} {base : Nat} {sp : Nat → Bool} {held : Bool} {r : Reach} {b0 : Nat} {v : Value} {d : DataW H} {p : List MemPlace} (hv : Value.okWide Try.prog w r b0 48 v) (h : DataW.Trod enc Try.prog w base sp held 48 v d p) :
    ∃ (A : Option Addr) (n c : Nat) (xs : Nat → Int), v = .slice A n c ∧ n ≤ 9223372036854775807 ∧ (A = none → n = 0 ∧ c = 0) ∧ IA w A n xs := by
  obtain ⟨A, n, c, rfl⟩ := okWide_slice Try.underlying48 hv
  obtain ⟨fuel, hf⟩ := h
  rcases open_ints Try.underlying48 Try.underlying3 (by kernel_rfl) hf with ⟨hcs, _⟩ | ⟨x, l, c', zs, hcs, _, hl, hm, hz, _, hcell, hwz⟩
  · simp [Value.cells] at hcs
    obtain ⟨rfl, rfl, rfl⟩ := hcs
    exact ⟨none, 0, 0, fun _ => 0, rfl, by omega, fun _ => ⟨rfl, rfl⟩, fun h => absurd h (Nat.lt_irrefl 0)⟩
  · simp [Value.cells] at hcs
    obtain ⟨rfl, rfl, rfl⟩ := hcs
    have hzl : n ≤ zs.length := by
      rw [hz]
      split <;> omega
    refine ⟨_, n, c, fun i => zs.getD i 0, rfl, (by unfold maxLen at hm; omega), fun h => (by cases h), fun h0 => ?_⟩
    obtain ⟨b, off, rfl, hc⟩ := ints_at hcell (by omega)
    exact ⟨b, off, rfl, fun i hi => hc i (by omega)⟩
end Go.Proofs.Ytmhcmiajikffpaa
namespace Go.Proofs.Ytmhcmiajikffpaa
open Go.ChangeShapes Go.WideShapes Go.ChangeAt Go.RowKit
set_option maxRecDepth 100000 in
theorem pathMotions_lifted (os : Os) (started : os.Started) (H : Type) (enc : TypeId × Value → H) :
    ReturnsInHanded {} Try.checked os 4 .any (Rows.pathMotionsSpec.pre6 enc Try.prog Try.f4 Rows.pathMotionsRow.domain false) (Rows.pathMotionsSpec.post enc Try.prog Try.f4 false true false false) := by
  refine returnsInHanded_of_change (C := Try.checked) own started (by kernel_rfl) Try.func4
    (ChangeSpec.witness6 (enc := enc) (C := Try.checked) false ⟨#[], #[.agg #[.int .i64 0, .int .i64 0, .int .i64 0, .int .i64 0, .int .i64 0], .slice none 0 0], []⟩ 8 (by kernel_rfl) (by kernel_rfl) (by kernel_rfl) (by kernel_rfl)) ?_
  intro W base args ds gs before hval0 hW hcnd _
  have hval : ∀ (j : Nat) t v, Try.f4.params[j]? = some t → args[j]? = some v → Value.okWide Try.prog W .any base t v := hval0
  have hW' := hW
  obtain ⟨p, q, hA0, hV, rfl, hfz, hnd⟩ := hW
  have hA : DataW.TrodAll enc Try.prog W 0 (fun _ => true) true Try.f4.params.toList args.toList ds p := hA0
  rw [Try.params4] at hA hval
  obtain ⟨v0, vs0, d0, ds0, p0, q0, hargs, rfl, rfl, h0, r0⟩ := trodAll_cons hA
  obtain ⟨v1, vs1, d1, ds1, p1, q1, rfl, rfl, rfl, h1, r1⟩ := trodAll_cons r0
  obtain ⟨rfl, rfl, rfl⟩ := trodAll_nil r1
  obtain rfl : args = #[v0, v1] := by cases args; simp_all
  obtain ⟨rfl, rfl⟩ := trodVars_none hV
  have k0 := h0
  have k1 := h1
  have lt0 : ∀ x ∈ p0, x.block < W.heap.size := by obtain ⟨m, hm⟩ := k0; exact DataW.trod_lt m _ _ _ hm
  have lt1 : ∀ x ∈ p1, x.block < W.heap.size := by obtain ⟨m, hm⟩ := k1; exact DataW.trod_lt m _ _ _ hm
  obtain ⟨t, lo, hi, st, ra, rfl⟩ := open_drive (hval 0 47 v0 rfl rfl) h0
  obtain ⟨A, n, c, xs, rfl, hn, hA1, hA2⟩ := open_list (hval 1 48 v1 rfl rfl) h1
  clear hA0 hval0
  refine (pathMotions_any t lo hi st ra A n c xs W hn hA1 hA2).mono fun e W' ⟨he, bel⟩ => ?_
  subst he
  exact ⟨_, rfl, _, _, _, [], _, [], hW', trodAll_mk1 (shut_bool Try.underlying4 _), (trodAll_cons_mk (Below.trod laidOut (by kernel_rfl) (of_decide_eq_true (by kernel_rfl)) k0 bel lt0) (trodAll_cons_mk (Below.trod laidOut (by kernel_rfl) (of_decide_eq_true (by kernel_rfl)) k1 bel lt1) trodAll_mk0)), rfl, bel.frame _, fun h => by cases h⟩
theorem pathMotions_over : Rows.pathMotionsRow.holds Try.pinned (OpenSpec.ofChange Rows.pathMotionsSpec) :=
  OpenClaim.holds_of_wide 4 Try.f4 rfl rfl rfl rfl rfl rfl rfl ⟨by kernel_rfl, by kernel_rfl, by kernel_rfl, by kernel_rfl, by kernel_rfl⟩ rfl rfl rfl rfl rfl (by kernel_rfl) Try.func4 (by kernel_rfl)
    (of_decide_eq_true (by kernel_rfl)) (by unfold Func.isWrapper; first | (rw [if_pos (by decide +kernel)]; kernel_rfl) | (rw [if_neg (by decide +kernel)]; exact ⟨rfl, rfl⟩))
    (fun os started H enc _ => pathMotions_lifted os started H enc)
/-- THE STATEMENT. -/
theorem pathMotions_holds : Rows.PathMotionsSaid := pathMotions_over
end Go.Proofs.Ytmhcmiajikffpaa
