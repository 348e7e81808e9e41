/- The statement PathSignalsSaid: whatever the two tracks and the signal, the law PathSignals returns true, and its arguments read afterwards as before. -/
import Derived.Test.YtnfoagcpgegldaaGreatB38
import Derived.Test.YtnfoagcpgegldaaGreatB31
import Derived.Test.YtnfoagcpgegldaaGreatB27
import Derived.Test.YtnfoagcpgegldaaGreatB39
import Derived.Test.YtnfoagcpgegldaaGreatB34
namespace Go.Proofs.YtnfoagcpgegldaaGreat
open Go.RowKit Go.Shelf Go.Sort
attribute [local go_sem] idx3_0 idx3_1 idx3_2 old1 fro1 old2 fro2 old3 fro3 old4 fro4 old5 fro5 old6 fro6 old7 fro7 old8 fro8 old9 fro9 old10 fro10 old11 fro11 old12 fro12
def sgF (S L H : Int) (aw ar : Bool) : Int := if S ≤ L ∧ L ≤ H then (if (L = S ∨ aw = true) ∧ ar = true then 0 else 19) else 9
def sgR (E : Nat → Int) (F : Int) : Int := if E 0 = 0 then (if E 1 = 0 then (if E 2 = 0 then F else E 2) else E 1) else E 0
theorem sgR_at {E : Nat → Int} {F : Int} {k : Nat} (hk : k < 3) (h0 : ∀ j, j < k → E j = 0) (h : E k ≠ 0) : sgR E F = E k := by
  rcases (by omega : k = 0 ∨ k = 1 ∨ k = 2) with rfl | rfl | rfl
  · simp [sgR, h]
  · simp [sgR, h, h0 0 (by omega)]
  · simp [sgR, h, h0 0 (by omega), h0 1 (by omega)]
theorem sgR_end {E : Nat → Int} {F : Int} (h0 : ∀ j, j < 3 → E j = 0) : sgR E F = F := by simp [sgR, h0 0 (by omega), h0 1 (by omega), h0 2 (by omega)]
theorem upto_succ {E : Nat → Int} {k : Nat} (h : ∀ j, j < k → E j = 0) (h2 : E k = 0) : ∀ j, j < k + 1 → E j = 0 := fun j hj => by
  rcases Nat.lt_or_eq_of_le (Nat.le_of_lt_succ hj) with h3 | rfl
  · exact h j h3
  · exact h2
/-- the cells of SignalErr -/
def SX (w : World) (ba oa na ca bb ob nb cb : Nat) (da db S L H : Int) (wx : World) : Prop :=
  Below w.heap.size w wx ∧ (wx.cell? ⟨w.heap.size, 0, none⟩ = some (.slice (some ⟨ba, oa, none⟩) na ca) ∧ wx.cell? ⟨w.heap.size, 1, none⟩ = some (.int .i64 da)) ∧ (wx.cell? ⟨w.heap.size + 1, 0, none⟩ = some (.slice (some ⟨bb, ob, none⟩) nb cb) ∧ wx.cell? ⟨w.heap.size + 1, 1, none⟩ = some (.int .i64 db)) ∧
  (wx.cell? ⟨w.heap.size + 1 + 1, 0, none⟩ = some (.int .i64 S) ∧ wx.cell? ⟨w.heap.size + 1 + 1, 1, none⟩ = some (.int .i64 L) ∧ wx.cell? ⟨w.heap.size + 1 + 1, 2, none⟩ = some (.int .i64 H)) ∧
  (wx.cell? ⟨w.heap.size + 1 + 1 + 1, 0, none⟩ = some (.int .i64 S) ∧ wx.cell? ⟨w.heap.size + 1 + 1 + 1, 1, none⟩ = some (.int .i64 L) ∧ wx.cell? ⟨w.heap.size + 1 + 1 + 1, 2, none⟩ = some (.int .i64 H))
theorem SX.to {w wx wy : World} {ba oa na ca bb ob nb cb : Nat} {da db S L H : Int} (h : SX w ba oa na ca bb ob nb cb da db S L H wx) (hb : Below wx.heap.size wx wy) : SX w ba oa na ca bb ob nb cb da db S L H wy := by
  obtain ⟨p, ⟨a0, a1⟩, ⟨b0, b1⟩, ⟨x0, x1, x2⟩, ⟨y0, y1, y2⟩⟩ := h
  exact ⟨thenB p hb, ⟨keep hb a0, keep hb a1⟩, ⟨keep hb b0, keep hb b1⟩, ⟨keep hb x0, keep hb x1, keep hb x2⟩, ⟨keep hb y0, keep hb y1, keep hb y2⟩⟩
def TFn (S L H : Int) (k : Nat) : Int := if k = 0 then S else if k = 1 then L else H
set_option maxRecDepth 100000 in
set_option maxHeartbeats 4000000 in
theorem signalErr_x (ba oa na ca bb ob nb cb : Nat) (da db S L H : Int) (E : Nat → Int) (aw ar : Bool) (w : World)
    (hT : ∀ k W, k < 3 → Below w.heap.size w W → Calls Tryz.prog 17 #[.agg #[.slice (some ⟨ba, oa, none⟩) na ca, .int .i64 da], .agg #[.slice (some ⟨bb, ob, none⟩) nb cb, .int .i64 db], .int .i64 (TFn S L H k)] W fun e w' => e = .returned (.int .i64 (E k)) ∧ Below W.heap.size W w')
    (hW : (∀ j, j < 3 → E j = 0) → S ≤ L → L ≤ H → ∀ W, Below w.heap.size w W → Calls Tryz.prog 29 #[.agg #[.slice (some ⟨ba, oa, none⟩) na ca, .int .i64 da], .agg #[.slice (some ⟨bb, ob, none⟩) nb cb, .int .i64 db], .int .i64 S, .int .i64 L] W fun e w' => e = .returned (.bool aw) ∧ Below W.heap.size W w')
    (hA : (∀ j, j < 3 → E j = 0) → S ≤ L → L ≤ H → ∀ W, Below w.heap.size w W → Calls Tryz.prog 28 #[.agg #[.slice (some ⟨ba, oa, none⟩) na ca, .int .i64 da], .agg #[.slice (some ⟨bb, ob, none⟩) nb cb, .int .i64 db], .int .i64 S, .int .i64 H] W fun e w' => e = .returned (.bool ar) ∧ Below W.heap.size W w') :
    Calls Tryz.prog 25 #[.agg #[.slice (some ⟨ba, oa, none⟩) na ca, .int .i64 da], .agg #[.slice (some ⟨bb, ob, none⟩) nb cb, .int .i64 db], .agg #[.int .i64 S, .int .i64 L, .int .i64 H]] w fun e w' => e = .returned (.int .i64 (sgR E (sgF S L H aw ar))) ∧ Below w.heap.size w w' := by
  have HT := Lib.hid hT
  have HW := Lib.hid hW
  have HA := Lib.hid hA
  clear hT hW hA
  go_enter Tryz.func25, Tryz.ntmps25
  go_wp2_with fail
  go_loopw [8] (fun s8 wr => ∃ k : Nat, k ≤ 3 ∧ s8 = .int .i64 k ∧ SX w ba oa na ca bb ob nb cb da db S L H wr ∧ Hid (∀ j, j < k → E j = 0)) (fun s8 _ => 3 - (intOf s8).toNat)
  case atStart => exact ⟨0, by omega, rfl, ⟨by (repeat (first | with_reducible exact Below.refl _ _ | with_reducible assumption | with_reducible refine Below.alloc ?_ (by first | (simp; done) | (simp; omega) | omega) _ | with_reducible refine Below.setCell ?_ (by first | (simp; done) | (simp; omega) | omega) _ | with_reducible refine Below.drew ?_ | with_reducible refine below_drewN ?_ _)), ⟨by simp [go_sem], by simp [go_sem]⟩, ⟨by simp [go_sem], by simp [go_sem]⟩, ⟨by simp [go_sem], by simp [go_sem], by simp [go_sem]⟩, ⟨by simp [go_sem], by simp [go_sem], by simp [go_sem]⟩⟩, fun j hj => absurd hj (Nat.not_lt_zero _)⟩
  case round =>
    obtain ⟨k, hk, rfl, hsx, hz⟩ := hrel
    have HX := Lib.hid hsx
    obtain ⟨p, ⟨a0, a1⟩, ⟨b0, b1⟩, ⟨x0, x1, x2⟩, ⟨y0, y1, y2⟩⟩ := hsx
    by_cases hlt : k < 3
    · have hc := Lib.hid (fun W hb => HT.out k W hlt (thenB p hb))
      clear p
      rcases (by omega : k = 0 ∨ k = 1 ∨ k = 2) with rfl | rfl | rfl
      · clear hk hlt
        have ht : TFn S L H 0 = S := rfl
        rw [ht] at hc
        clear ht
        by_cases hE : E 0 = 0
        · rw [hE] at hc
          have HE := Lib.hid hE
          clear hE
          go_wp2_with fail
          go_region_held3 (fun w' => w'.cell? ⟨w.heap.size, 0, none⟩ = some (.slice (some ⟨ba, oa, none⟩) na ca) ∧ w'.cell? ⟨w.heap.size, 1, none⟩ = some (.int .i64 da) ∧ w'.cell? ⟨w.heap.size + 1, 0, none⟩ = some (.slice (some ⟨bb, ob, none⟩) nb cb) ∧ w'.cell? ⟨w.heap.size + 1, 1, none⟩ = some (.int .i64 db) ∧ w'.cell? ⟨w.heap.size + 1 + 1 + 1, 0, none⟩ = some (.int .i64 S)) (simp [go_sem, *])
            (first | (go_at_call 17; (with_reducible refine Calls.mono (hc.out _ (show Below wr.heap.size wr _ by (repeat (first | with_reducible exact Below.refl _ _ | with_reducible assumption | with_reducible refine Below.alloc ?_ (by first | (simp; done) | (simp; omega) | omega) _ | with_reducible refine Below.setCell ?_ (by first | (simp; done) | (simp; omega) | omega) _ | with_reducible refine Below.drew ?_ | with_reducible refine below_drewN ?_ _)))) ?_); rintro e w3 ⟨rfl, hb3⟩; have B3 := Lib.hid (thenB (show Below wr.heap.size wr _ by (repeat (first | with_reducible exact Below.refl _ _ | with_reducible assumption | with_reducible refine Below.alloc ?_ (by first | (simp; done) | (simp; omega) | omega) _ | with_reducible refine Below.setCell ?_ (by first | (simp; done) | (simp; omega) | omega) _ | with_reducible refine Below.drew ?_ | with_reducible refine below_drewN ?_ _))) hb3); have q0 := keep B3.out a0; have q1 := keep B3.out a1; have q2 := keep B3.out b0; have q3 := keep B3.out b1; have q4 := keep B3.out y0; clear hb3))
          all_goals
            go_wp2_with fail
            go_roundw
            case rel => exact ⟨1, by omega, rfl, HX.out.to B3.out, upto_succ (k := 0) hz.out HE.out⟩
            case measure => simp [intOf]
        · have HR : Hid (sgR E (sgF S L H aw ar) = E 0) := sgR_at (by omega) hz.out hE
          have hq : (E 0 != 0) = true := by simpa using hE
          clear hE
          go_wp2_with fail
          go_region_held3 (fun w' => w'.cell? ⟨w.heap.size, 0, none⟩ = some (.slice (some ⟨ba, oa, none⟩) na ca) ∧ w'.cell? ⟨w.heap.size, 1, none⟩ = some (.int .i64 da) ∧ w'.cell? ⟨w.heap.size + 1, 0, none⟩ = some (.slice (some ⟨bb, ob, none⟩) nb cb) ∧ w'.cell? ⟨w.heap.size + 1, 1, none⟩ = some (.int .i64 db) ∧ w'.cell? ⟨w.heap.size + 1 + 1 + 1, 0, none⟩ = some (.int .i64 S)) (simp [go_sem, *])
            (first | (go_at_call 17; (with_reducible refine Calls.mono (hc.out _ (show Below wr.heap.size wr _ by (repeat (first | with_reducible exact Below.refl _ _ | with_reducible assumption | with_reducible refine Below.alloc ?_ (by first | (simp; done) | (simp; omega) | omega) _ | with_reducible refine Below.setCell ?_ (by first | (simp; done) | (simp; omega) | omega) _ | with_reducible refine Below.drew ?_ | with_reducible refine below_drewN ?_ _)))) ?_); rintro e w3 ⟨rfl, hb3⟩; have B3 := Lib.hid (thenB (show Below wr.heap.size wr _ by (repeat (first | with_reducible exact Below.refl _ _ | with_reducible assumption | with_reducible refine Below.alloc ?_ (by first | (simp; done) | (simp; omega) | omega) _ | with_reducible refine Below.setCell ?_ (by first | (simp; done) | (simp; omega) | omega) _ | with_reducible refine Below.drew ?_ | with_reducible refine below_drewN ?_ _))) hb3); have q0 := keep B3.out a0; have q1 := keep B3.out a1; have q2 := keep B3.out b0; have q3 := keep B3.out b1; have q4 := keep B3.out y0; clear hb3))
          all_goals
            go_wp2_with fail
            go_ret
            exact ⟨ret_int HR.out.symm, (HX.out.to B3.out).1⟩
      · clear hk hlt
        have ht : TFn S L H 1 = L := rfl
        rw [ht] at hc
        clear ht
        by_cases hE : E 1 = 0
        · rw [hE] at hc
          have HE := Lib.hid hE
          clear hE
          go_wp2_with fail
          go_region_held3 (fun w' => w'.cell? ⟨w.heap.size, 0, none⟩ = some (.slice (some ⟨ba, oa, none⟩) na ca) ∧ w'.cell? ⟨w.heap.size, 1, none⟩ = some (.int .i64 da) ∧ w'.cell? ⟨w.heap.size + 1, 0, none⟩ = some (.slice (some ⟨bb, ob, none⟩) nb cb) ∧ w'.cell? ⟨w.heap.size + 1, 1, none⟩ = some (.int .i64 db) ∧ w'.cell? ⟨w.heap.size + 1 + 1 + 1, 1, none⟩ = some (.int .i64 L)) (simp [go_sem, *])
            (first | (go_at_call 17; (with_reducible refine Calls.mono (hc.out _ (show Below wr.heap.size wr _ by (repeat (first | with_reducible exact Below.refl _ _ | with_reducible assumption | with_reducible refine Below.alloc ?_ (by first | (simp; done) | (simp; omega) | omega) _ | with_reducible refine Below.setCell ?_ (by first | (simp; done) | (simp; omega) | omega) _ | with_reducible refine Below.drew ?_ | with_reducible refine below_drewN ?_ _)))) ?_); rintro e w3 ⟨rfl, hb3⟩; have B3 := Lib.hid (thenB (show Below wr.heap.size wr _ by (repeat (first | with_reducible exact Below.refl _ _ | with_reducible assumption | with_reducible refine Below.alloc ?_ (by first | (simp; done) | (simp; omega) | omega) _ | with_reducible refine Below.setCell ?_ (by first | (simp; done) | (simp; omega) | omega) _ | with_reducible refine Below.drew ?_ | with_reducible refine below_drewN ?_ _))) hb3); have q0 := keep B3.out a0; have q1 := keep B3.out a1; have q2 := keep B3.out b0; have q3 := keep B3.out b1; have q4 := keep B3.out y1; clear hb3))
          all_goals
            go_wp2_with fail
            go_roundw
            case rel => exact ⟨2, by omega, rfl, HX.out.to B3.out, upto_succ (k := 1) hz.out HE.out⟩
            case measure => simp [intOf]
        · have HR : Hid (sgR E (sgF S L H aw ar) = E 1) := sgR_at (by omega) hz.out hE
          have hq : (E 1 != 0) = true := by simpa using hE
          clear hE
          go_wp2_with fail
          go_region_held3 (fun w' => w'.cell? ⟨w.heap.size, 0, none⟩ = some (.slice (some ⟨ba, oa, none⟩) na ca) ∧ w'.cell? ⟨w.heap.size, 1, none⟩ = some (.int .i64 da) ∧ w'.cell? ⟨w.heap.size + 1, 0, none⟩ = some (.slice (some ⟨bb, ob, none⟩) nb cb) ∧ w'.cell? ⟨w.heap.size + 1, 1, none⟩ = some (.int .i64 db) ∧ w'.cell? ⟨w.heap.size + 1 + 1 + 1, 1, none⟩ = some (.int .i64 L)) (simp [go_sem, *])
            (first | (go_at_call 17; (with_reducible refine Calls.mono (hc.out _ (show Below wr.heap.size wr _ by (repeat (first | with_reducible exact Below.refl _ _ | with_reducible assumption | with_reducible refine Below.alloc ?_ (by first | (simp; done) | (simp; omega) | omega) _ | with_reducible refine Below.setCell ?_ (by first | (simp; done) | (simp; omega) | omega) _ | with_reducible refine Below.drew ?_ | with_reducible refine below_drewN ?_ _)))) ?_); rintro e w3 ⟨rfl, hb3⟩; have B3 := Lib.hid (thenB (show Below wr.heap.size wr _ by (repeat (first | with_reducible exact Below.refl _ _ | with_reducible assumption | with_reducible refine Below.alloc ?_ (by first | (simp; done) | (simp; omega) | omega) _ | with_reducible refine Below.setCell ?_ (by first | (simp; done) | (simp; omega) | omega) _ | with_reducible refine Below.drew ?_ | with_reducible refine below_drewN ?_ _))) hb3); have q0 := keep B3.out a0; have q1 := keep B3.out a1; have q2 := keep B3.out b0; have q3 := keep B3.out b1; have q4 := keep B3.out y1; clear hb3))
          all_goals
            go_wp2_with fail
            go_ret
            exact ⟨ret_int HR.out.symm, (HX.out.to B3.out).1⟩
      · clear hk hlt
        have ht : TFn S L H 2 = H := rfl
        rw [ht] at hc
        clear ht
        by_cases hE : E 2 = 0
        · rw [hE] at hc
          have HE := Lib.hid hE
          clear hE
          go_wp2_with fail
          go_region_held3 (fun w' => w'.cell? ⟨w.heap.size, 0, none⟩ = some (.slice (some ⟨ba, oa, none⟩) na ca) ∧ w'.cell? ⟨w.heap.size, 1, none⟩ = some (.int .i64 da) ∧ w'.cell? ⟨w.heap.size + 1, 0, none⟩ = some (.slice (some ⟨bb, ob, none⟩) nb cb) ∧ w'.cell? ⟨w.heap.size + 1, 1, none⟩ = some (.int .i64 db) ∧ w'.cell? ⟨w.heap.size + 1 + 1 + 1, 2, none⟩ = some (.int .i64 H)) (simp [go_sem, *])
            (first | (go_at_call 17; (with_reducible refine Calls.mono (hc.out _ (show Below wr.heap.size wr _ by (repeat (first | with_reducible exact Below.refl _ _ | with_reducible assumption | with_reducible refine Below.alloc ?_ (by first | (simp; done) | (simp; omega) | omega) _ | with_reducible refine Below.setCell ?_ (by first | (simp; done) | (simp; omega) | omega) _ | with_reducible refine Below.drew ?_ | with_reducible refine below_drewN ?_ _)))) ?_); rintro e w3 ⟨rfl, hb3⟩; have B3 := Lib.hid (thenB (show Below wr.heap.size wr _ by (repeat (first | with_reducible exact Below.refl _ _ | with_reducible assumption | with_reducible refine Below.alloc ?_ (by first | (simp; done) | (simp; omega) | omega) _ | with_reducible refine Below.setCell ?_ (by first | (simp; done) | (simp; omega) | omega) _ | with_reducible refine Below.drew ?_ | with_reducible refine below_drewN ?_ _))) hb3); have q0 := keep B3.out a0; have q1 := keep B3.out a1; have q2 := keep B3.out b0; have q3 := keep B3.out b1; have q4 := keep B3.out y2; clear hb3))
          all_goals
            go_wp2_with fail
            go_roundw
            case rel => exact ⟨3, by omega, rfl, HX.out.to B3.out, upto_succ (k := 2) hz.out HE.out⟩
            case measure => simp [intOf]
        · have HR : Hid (sgR E (sgF S L H aw ar) = E 2) := sgR_at (by omega) hz.out hE
          have hq : (E 2 != 0) = true := by simpa using hE
          clear hE
          go_wp2_with fail
          go_region_held3 (fun w' => w'.cell? ⟨w.heap.size, 0, none⟩ = some (.slice (some ⟨ba, oa, none⟩) na ca) ∧ w'.cell? ⟨w.heap.size, 1, none⟩ = some (.int .i64 da) ∧ w'.cell? ⟨w.heap.size + 1, 0, none⟩ = some (.slice (some ⟨bb, ob, none⟩) nb cb) ∧ w'.cell? ⟨w.heap.size + 1, 1, none⟩ = some (.int .i64 db) ∧ w'.cell? ⟨w.heap.size + 1 + 1 + 1, 2, none⟩ = some (.int .i64 H)) (simp [go_sem, *])
            (first | (go_at_call 17; (with_reducible refine Calls.mono (hc.out _ (show Below wr.heap.size wr _ by (repeat (first | with_reducible exact Below.refl _ _ | with_reducible assumption | with_reducible refine Below.alloc ?_ (by first | (simp; done) | (simp; omega) | omega) _ | with_reducible refine Below.setCell ?_ (by first | (simp; done) | (simp; omega) | omega) _ | with_reducible refine Below.drew ?_ | with_reducible refine below_drewN ?_ _)))) ?_); rintro e w3 ⟨rfl, hb3⟩; have B3 := Lib.hid (thenB (show Below wr.heap.size wr _ by (repeat (first | with_reducible exact Below.refl _ _ | with_reducible assumption | with_reducible refine Below.alloc ?_ (by first | (simp; done) | (simp; omega) | omega) _ | with_reducible refine Below.setCell ?_ (by first | (simp; done) | (simp; omega) | omega) _ | with_reducible refine Below.drew ?_ | with_reducible refine below_drewN ?_ _))) hb3); have q0 := keep B3.out a0; have q1 := keep B3.out a1; have q2 := keep B3.out b0; have q3 := keep B3.out b1; have q4 := keep B3.out y2; clear hb3))
          all_goals
            go_wp2_with fail
            go_ret
            exact ⟨ret_int HR.out.symm, (HX.out.to B3.out).1⟩
    · obtain rfl : k = 3 := by omega
      clear hk hlt
      have HR : Hid (sgR E (sgF S L H aw ar) = sgF S L H aw ar) := sgR_end hz.out
      by_cases h1 : S ≤ L
      · by_cases h2 : L ≤ H
        · have hw := Lib.hid (fun W hb => HW.out hz.out h1 h2 W (thenB p hb))
          have ha := Lib.hid (fun W hb => HA.out hz.out h1 h2 W (thenB p hb))
          have d1 : decide (L < S) = false := by simp; omega
          have d2 : decide (H < L) = false := by simp; omega
          by_cases h3 : L = S
          · have d3 : (L != S) = false := by simp [h3]
            cases har : ar
            · rw [har] at ha
              have HF : Hid (sgF S L H aw ar = 19) := by unfold Hid sgF; rw [if_pos ⟨h1, h2⟩]; simp [h3, har]
              clear h1 h2 h3 har
              have HP := Lib.hid p
              clear p y0 y1 y2
              go_wp2_with (first
                | (go_at_call 28; (with_reducible refine Calls.mono (ha.out _ (by (repeat (first | with_reducible exact Below.refl _ _ | with_reducible assumption | with_reducible refine Below.alloc ?_ (by first | (simp; done) | (simp; omega) | omega) _ | with_reducible refine Below.setCell ?_ (by first | (simp; done) | (simp; omega) | omega) _ | with_reducible refine Below.drew ?_ | with_reducible refine below_drewN ?_ _)))) ?_); rintro e w3 ⟨rfl, hb3⟩; have B3 := Lib.hid hb3; clear hb3)
                | fail)
              go_ret
              exact ⟨ret_int (HR.out.trans HF.out).symm, thenB HP.out (by have Bq := B3.out; have Bz := Bq.size; (repeat (first | with_reducible exact Below.refl _ _ | with_reducible assumption | with_reducible refine Below.alloc ?_ (by first | (simp; done) | (simp; omega) | omega) _ | with_reducible refine Below.setCell ?_ (by first | (simp; done) | (simp; omega) | omega) _ | with_reducible refine Below.drew ?_ | with_reducible refine below_drewN ?_ _)))⟩
            · rw [har] at ha
              have HF : Hid (sgF S L H aw ar = 0) := by unfold Hid sgF; rw [if_pos ⟨h1, h2⟩]; simp [h3, har]
              clear h1 h2 h3 har
              have HP := Lib.hid p
              clear p y0 y1 y2
              go_wp2_with (first
                | (go_at_call 28; (with_reducible refine Calls.mono (ha.out _ (by (repeat (first | with_reducible exact Below.refl _ _ | with_reducible assumption | with_reducible refine Below.alloc ?_ (by first | (simp; done) | (simp; omega) | omega) _ | with_reducible refine Below.setCell ?_ (by first | (simp; done) | (simp; omega) | omega) _ | with_reducible refine Below.drew ?_ | with_reducible refine below_drewN ?_ _)))) ?_); rintro e w3 ⟨rfl, hb3⟩; have B3 := Lib.hid hb3; clear hb3)
                | fail)
              go_ret
              exact ⟨ret_int (HR.out.trans HF.out).symm, thenB HP.out (by have Bq := B3.out; have Bz := Bq.size; (repeat (first | with_reducible exact Below.refl _ _ | with_reducible assumption | with_reducible refine Below.alloc ?_ (by first | (simp; done) | (simp; omega) | omega) _ | with_reducible refine Below.setCell ?_ (by first | (simp; done) | (simp; omega) | omega) _ | with_reducible refine Below.drew ?_ | with_reducible refine below_drewN ?_ _)))⟩
          · have d3 : (L != S) = true := by simp [h3]
            cases haw : aw
            · rw [haw] at hw
              have HF : Hid (sgF S L H aw ar = 19) := by unfold Hid sgF; rw [if_pos ⟨h1, h2⟩]; simp [h3, haw]
              clear h1 h2 h3 haw
              have HP := Lib.hid p
              clear p y0 y1 y2
              go_wp2_with (first
                | (go_at_call 29; (with_reducible refine Calls.mono (hw.out _ (by (repeat (first | with_reducible exact Below.refl _ _ | with_reducible assumption | with_reducible refine Below.alloc ?_ (by first | (simp; done) | (simp; omega) | omega) _ | with_reducible refine Below.setCell ?_ (by first | (simp; done) | (simp; omega) | omega) _ | with_reducible refine Below.drew ?_ | with_reducible refine below_drewN ?_ _)))) ?_); rintro e w3 ⟨rfl, hb3⟩; have B3 := Lib.hid hb3; clear hb3)
                | fail)
              go_ret
              exact ⟨ret_int (HR.out.trans HF.out).symm, thenB HP.out (by have Bq := B3.out; have Bz := Bq.size; (repeat (first | with_reducible exact Below.refl _ _ | with_reducible assumption | with_reducible refine Below.alloc ?_ (by first | (simp; done) | (simp; omega) | omega) _ | with_reducible refine Below.setCell ?_ (by first | (simp; done) | (simp; omega) | omega) _ | with_reducible refine Below.drew ?_ | with_reducible refine below_drewN ?_ _)))⟩
            · rw [haw] at hw
              cases har : ar
              · rw [har] at ha
                have HF : Hid (sgF S L H aw ar = 19) := by unfold Hid sgF; rw [if_pos ⟨h1, h2⟩]; simp [haw, har]
                clear h1 h2 h3 haw har
                have HP := Lib.hid p
                clear p y0 y1 y2
                go_wp2_with (first
                  | (go_at_call 29; (with_reducible refine Calls.mono (hw.out _ (by (repeat (first | with_reducible exact Below.refl _ _ | with_reducible assumption | with_reducible refine Below.alloc ?_ (by first | (simp; done) | (simp; omega) | omega) _ | with_reducible refine Below.setCell ?_ (by first | (simp; done) | (simp; omega) | omega) _ | with_reducible refine Below.drew ?_ | with_reducible refine below_drewN ?_ _)))) ?_); rintro e w3 ⟨rfl, hb3⟩; have B3 := Lib.hid (thenB (show Below wr.heap.size wr _ by (repeat (first | with_reducible exact Below.refl _ _ | with_reducible assumption | with_reducible refine Below.alloc ?_ (by first | (simp; done) | (simp; omega) | omega) _ | with_reducible refine Below.setCell ?_ (by first | (simp; done) | (simp; omega) | omega) _ | with_reducible refine Below.drew ?_ | with_reducible refine below_drewN ?_ _))) hb3); have q0 := keep B3.out a0; have q1 := keep B3.out a1; have q2 := keep B3.out b0; have q3 := keep B3.out b1; have q4 := keep B3.out x0; have q5 := keep B3.out x2; clear hb3)
                  | (go_at_call 28; (with_reducible refine Calls.mono (ha.out _ (by have Bq := B3.out; have Bz := Bq.size; (repeat (first | with_reducible exact Below.refl _ _ | with_reducible assumption | with_reducible refine Below.alloc ?_ (by first | (simp; done) | (simp; omega) | omega) _ | with_reducible refine Below.setCell ?_ (by first | (simp; done) | (simp; omega) | omega) _ | with_reducible refine Below.drew ?_ | with_reducible refine below_drewN ?_ _)))) ?_); rintro e w4 ⟨rfl, hb4⟩; have B4 := Lib.hid (thenB B3.out hb4); clear hb4)
                  | fail)
                go_ret
                exact ⟨ret_int (HR.out.trans HF.out).symm, thenB HP.out (by have Bq := B4.out; have Bz := Bq.size; (repeat (first | with_reducible exact Below.refl _ _ | with_reducible assumption | with_reducible refine Below.alloc ?_ (by first | (simp; done) | (simp; omega) | omega) _ | with_reducible refine Below.setCell ?_ (by first | (simp; done) | (simp; omega) | omega) _ | with_reducible refine Below.drew ?_ | with_reducible refine below_drewN ?_ _)))⟩
              · rw [har] at ha
                have HF : Hid (sgF S L H aw ar = 0) := by unfold Hid sgF; rw [if_pos ⟨h1, h2⟩]; simp [haw, har]
                clear h1 h2 h3 haw har
                have HP := Lib.hid p
                clear p y0 y1 y2
                go_wp2_with (first
                  | (go_at_call 29; (with_reducible refine Calls.mono (hw.out _ (by (repeat (first | with_reducible exact Below.refl _ _ | with_reducible assumption | with_reducible refine Below.alloc ?_ (by first | (simp; done) | (simp; omega) | omega) _ | with_reducible refine Below.setCell ?_ (by first | (simp; done) | (simp; omega) | omega) _ | with_reducible refine Below.drew ?_ | with_reducible refine below_drewN ?_ _)))) ?_); rintro e w3 ⟨rfl, hb3⟩; have B3 := Lib.hid (thenB (show Below wr.heap.size wr _ by (repeat (first | with_reducible exact Below.refl _ _ | with_reducible assumption | with_reducible refine Below.alloc ?_ (by first | (simp; done) | (simp; omega) | omega) _ | with_reducible refine Below.setCell ?_ (by first | (simp; done) | (simp; omega) | omega) _ | with_reducible refine Below.drew ?_ | with_reducible refine below_drewN ?_ _))) hb3); have q0 := keep B3.out a0; have q1 := keep B3.out a1; have q2 := keep B3.out b0; have q3 := keep B3.out b1; have q4 := keep B3.out x0; have q5 := keep B3.out x2; clear hb3)
                  | (go_at_call 28; (with_reducible refine Calls.mono (ha.out _ (by have Bq := B3.out; have Bz := Bq.size; (repeat (first | with_reducible exact Below.refl _ _ | with_reducible assumption | with_reducible refine Below.alloc ?_ (by first | (simp; done) | (simp; omega) | omega) _ | with_reducible refine Below.setCell ?_ (by first | (simp; done) | (simp; omega) | omega) _ | with_reducible refine Below.drew ?_ | with_reducible refine below_drewN ?_ _)))) ?_); rintro e w4 ⟨rfl, hb4⟩; have B4 := Lib.hid (thenB B3.out hb4); clear hb4)
                  | fail)
                go_ret
                exact ⟨ret_int (HR.out.trans HF.out).symm, thenB HP.out (by have Bq := B4.out; have Bz := Bq.size; (repeat (first | with_reducible exact Below.refl _ _ | with_reducible assumption | with_reducible refine Below.alloc ?_ (by first | (simp; done) | (simp; omega) | omega) _ | with_reducible refine Below.setCell ?_ (by first | (simp; done) | (simp; omega) | omega) _ | with_reducible refine Below.drew ?_ | with_reducible refine below_drewN ?_ _)))⟩
        · have d1 : decide (L < S) = false := by simp; omega
          have d2 : decide (H < L) = true := by simp; omega
          have HF : Hid (sgF S L H aw ar = 9) := by unfold Hid sgF; simp [h2]
          clear h1 h2
          have HP := Lib.hid p
          clear p y0 y1 y2
          go_wp2_with fail
          go_ret
          exact ⟨ret_int (HR.out.trans HF.out).symm, thenB HP.out (by (repeat (first | with_reducible exact Below.refl _ _ | with_reducible assumption | with_reducible refine Below.alloc ?_ (by first | (simp; done) | (simp; omega) | omega) _ | with_reducible refine Below.setCell ?_ (by first | (simp; done) | (simp; omega) | omega) _ | with_reducible refine Below.drew ?_ | with_reducible refine below_drewN ?_ _)))⟩
      · have d1 : decide (L < S) = true := by simp; omega
        have HF : Hid (sgF S L H aw ar = 9) := by unfold Hid sgF; simp [h1]
        clear h1
        have HP := Lib.hid p
        clear p y0 y1 y2
        go_wp2_with fail
        go_ret
        exact ⟨ret_int (HR.out.trans HF.out).symm, thenB HP.out (by (repeat (first | with_reducible exact Below.refl _ _ | with_reducible assumption | with_reducible refine Below.alloc ?_ (by first | (simp; done) | (simp; omega) | omega) _ | with_reducible refine Below.setCell ?_ (by first | (simp; done) | (simp; omega) | omega) _ | with_reducible refine Below.drew ?_ | with_reducible refine below_drewN ?_ _)))⟩
end Go.Proofs.YtnfoagcpgegldaaGreat
namespace Go.Proofs.YtnfoagcpgegldaaGreat
open Go.ChangeShapes Go.WideShapes Go.ChangeAt Go.RowKit Go.Joins Go.Deep Go.Shelf Go.Sort
set_option maxRecDepth 100000 in
set_option maxHeartbeats 800000 in
theorem sig_0 (A B : Option Addr) (na nb ca cb : Nat) (da db S L H : Int) (w : World)
    (hFW : ∀ W, Calls Tryz.prog 12 #[.agg #[.slice A na ca, .int .i64 da], .agg #[.slice B nb cb, .int .i64 db]] W fun e w' => e = .returned (.bool false) ∧ Below W.heap.size W w') :
    Calls Tryz.prog 5 #[.agg #[.slice A na ca, .int .i64 da], .agg #[.slice B nb cb, .int .i64 db], .agg #[.int .i64 S, .int .i64 L, .int .i64 H]] w fun e w' => e = .returned (.bool true) ∧ Below w.heap.size w w' := by
  have HFW := Lib.hid hFW
  clear hFW
  go_enter Tryz.func5, Tryz.ntmps5
  go_wp2_with (first
    | (go_at_call 11; (with_reducible refine Calls.mono (awake_any _) ?_); rintro e w1 ⟨rfl, hb1⟩; have B1 := Lib.hid (thenB (show Below w.heap.size w _ by (repeat (first | with_reducible exact Below.refl _ _ | with_reducible assumption | with_reducible refine Below.alloc ?_ (by first | (simp; done) | (simp; omega) | omega) _ | with_reducible refine Below.setCell ?_ (by first | (simp; done) | (simp; omega) | omega) _ | with_reducible refine Below.drew ?_ | with_reducible refine below_drewN ?_ _))) hb1); have a0 := keep hb1 (b := w.heap.size) (o := 0) (v := .slice A na ca) (by simp [go_sem]); have a1 := keep hb1 (b := w.heap.size) (o := 1) (v := .int .i64 da) (by simp [go_sem]); have b0 := keep hb1 (b := w.heap.size + 1) (o := 0) (v := .slice B nb cb) (by simp [go_sem]); have b1 := keep hb1 (b := w.heap.size + 1) (o := 1) (v := .int .i64 db) (by simp [go_sem]); clear hb1)
    | (go_at_call 12; (with_reducible refine Calls.mono (HFW.out _) ?_); rintro e w2 ⟨rfl, hb2⟩; have B2 := Lib.hid (thenB B1.out hb2); clear hb2)
    | fail)
  go_ret
  exact ⟨rfl, B2.out⟩
theorem crE_eq (A B : TV) (S L H : Int) : crE A B S L H = if A.err = 0 then (if B.err = 0 then (if timesErr A B S = 0 then (if timesErr A B L = 0 then (if timesErr A B H = 0 then
    (if (if (decide (S ≤ L) && decide (L ≤ H)) = true then (0 : Int) else 9) = 0 then (if (if (decide (L = S) || awayB A.t B.t S L) = true then (0 : Int) else 19) = 0 then (if (if arrB A.t B.t S H = true then (0 : Int) else 19) = 0 then 0 else (if arrB A.t B.t S H = true then (0 : Int) else 19)) else (if (decide (L = S) || awayB A.t B.t S L) = true then (0 : Int) else 19)) else (if (decide (S ≤ L) && decide (L ≤ H)) = true then (0 : Int) else 9))
    else timesErr A B H) else timesErr A B L) else timesErr A B S) else B.err) else A.err := rfl
theorem cr_both {A B : TV} {S L H : Int} (h : bothErr A B ≠ 0) : crE A B S L H = bothErr A B := by
  rw [crE_eq]
  unfold bothErr at h ⊢
  by_cases hA : A.err = 0
  · rw [if_pos hA] at h
    rw [if_pos hA, if_pos hA, if_neg h]
  · rw [if_neg hA, if_neg hA]
theorem cr_none {A B : TV} {S L H : Int} (hA : A.err = 0) (hB : B.err = 0) : crE A B S L H = sgR (fun k => timesErr A B (TFn S L H k)) (sgF S L H (awayB A.t B.t S L) (arrB A.t B.t S H)) := by
  rw [crE_eq, if_pos hA, if_pos hB]
  show _ = if timesErr A B S = 0 then (if timesErr A B L = 0 then (if timesErr A B H = 0 then _ else timesErr A B H) else timesErr A B L) else timesErr A B S
  by_cases h0 : timesErr A B S = 0
  · rw [if_pos h0, if_pos h0]
    by_cases h1 : timesErr A B L = 0
    · rw [if_pos h1, if_pos h1]
      by_cases h2 : timesErr A B H = 0
      · rw [if_pos h2, if_pos h2]
        unfold sgF
        by_cases h3 : S ≤ L ∧ L ≤ H
        · have q : (decide (S ≤ L) && decide (L ≤ H)) = true := by simp [h3.1, h3.2]
          rw [if_pos h3, q]
          cases awayB A.t B.t S L <;> cases arrB A.t B.t S H <;> by_cases h4 : L = S <;> simp [h4]
        · have q : (decide (S ≤ L) && decide (L ≤ H)) = false := by
            simp only [Bool.and_eq_false_iff, decide_eq_false_iff_not]
            omega
          rw [if_neg h3, q]
          simp
      · rw [if_neg h2, if_neg h2]
    · rw [if_neg h1, if_neg h1]
  · rw [if_neg h0, if_neg h0]
theorem pathSignals_any (A B : Option Addr) (na nb ca cb : Nat) (da db S L H : Int) (ka kb : Nat → Knot) (w : World) (hn : na ≤ 9223372036854775807) (hm : nb ≤ 9223372036854775807) (hA0 : A = none → na = 0 ∧ ca = 0) (hB0 : B = none → nb = 0 ∧ cb = 0) (hA : KA w A na ka) (hB : KA w B nb kb) :
    Calls Tryz.prog 5 #[.agg #[.slice A na ca, .int .i64 da], .agg #[.slice B nb cb, .int .i64 db], .agg #[.int .i64 S, .int .i64 L, .int .i64 H]] w fun e w' => e = .returned (.bool true) ∧ Below w.heap.size w w' := by
  have hF := fun W => few2_any A B na ca nb cb da db W hn hm
  by_cases h : na ≤ 14 ∧ nb ≤ 14
  · obtain ⟨na1, nb1⟩ := h
    have q : (decide ((na : Int) ≤ 14) && decide ((nb : Int) ≤ 14)) = true := by simp; omega
    rw [q] at hF
    have hCR : ∀ W X cx Y cy, KA W X na ka → KA W Y nb kb → Calls Tryz.prog 24 #[.agg #[.slice X na cx, .int .i64 da], .agg #[.slice Y nb cy, .int .i64 db], .agg #[.int .i64 S, .int .i64 L, .int .i64 H]] W fun e w' => e = .returned (.int .i64 (crE ⟨A, na, ca, ka, da⟩ ⟨B, nb, cb, kb, db⟩ S L H)) ∧ Below W.heap.size W w' :=
      fun W X cx Y cy h1 h2 => checkReceived_n X Y na cx nb cy ka kb da db S L H W ⟨h1, by show na ≤ _; omega⟩ ⟨h2, by show nb ≤ _; omega⟩
    have hBE := fun W (h1 : KA W A na ka) (h2 : KA W B nb kb) => bothErr_any A B na ca nb cb da db ka kb W hn hm h1 h2
    by_cases hD : bothErr ⟨A, na, ca, ka, da⟩ ⟨B, nb, cb, kb, db⟩ = 0
    · have eA : ctErr ka na da = 0 := by
        by_cases e : ctErr ka na da = 0
        · exact e
        · exact absurd (show ctErr ka na da = 0 by unfold bothErr TV.err at hD; rwa [if_neg e] at hD) e
      have eB : ctErr kb nb db = 0 := by unfold bothErr TV.err at hD; rwa [if_pos eA] at hD
      change ∀ W, _ → _ → Calls _ _ _ _ (fun e w' => e = .returned (.int .i64 (bothErr ⟨A, na, ca, ka, da⟩ ⟨B, nb, cb, kb, db⟩)) ∧ _) at hBE
      rw [hD] at hBE
      rw [cr_none (A := ⟨A, na, ca, ka, da⟩) (B := ⟨B, nb, cb, kb, db⟩) eA eB] at hCR
      obtain ⟨va1, va2, _, _⟩ := valid_of eA
      obtain ⟨vb1, vb2, _, _⟩ := valid_of eB
      refine sig_G A B na nb ca cb da db S L H _ ka kb w hA0 hB0 hA hB na1 nb1 hF hCR hBE fun W h1 h2 => ?_
      obtain ⟨ba, oa, e1, hta⟩ := TV.valid (t := ⟨A, na, ca, ka, da⟩) (w := W) ⟨h1, by show na ≤ _; omega⟩ eA
      obtain ⟨bb, ob, e2, htb⟩ := TV.valid (t := ⟨B, nb, cb, kb, db⟩) (w := W) ⟨h2, by show nb ≤ _; omega⟩ eB
      simp only at e1 e2
      subst e1 e2
      refine signalErr_x ba oa na ca bb ob nb cb da db S L H _ _ _ W (fun k V _ hb => timesErr_any ba oa bb ob na ca nb cb da db _ ka kb V va1 (by omega) vb1 (by omega) (hta.below hb).2.2 (htb.below hb).2.2) ?_ ?_
      · intro hz o1 o2 V hb
        have t0 := crt_0 (hz 0 (by omega))
        have t1 := crt_0 (hz 1 (by omega))
        have sp := cr_span (A := ⟨ba, oa, na, ca, ka, da⟩) (s := S) (r := L) ⟨eA, t0.1⟩ ⟨eA, t1.1⟩
        exact raway_any V ⟨ba, oa, na, ca, ka, da⟩ ⟨bb, ob, nb, cb, kb, db⟩ S L ⟨hta.below hb, eA, t0.1⟩ ⟨htb.below hb, eB, t1.2⟩ o1 (by omega)
      · intro hz o1 o2 V hb
        have t0 := crt_0 (hz 0 (by omega))
        have t2 := crt_0 (hz 2 (by omega))
        have sp := cr_span (A := ⟨ba, oa, na, ca, ka, da⟩) (s := S) (r := H) ⟨eA, t0.1⟩ ⟨eA, t2.1⟩
        exact rarrived_any V ⟨ba, oa, na, ca, ka, da⟩ ⟨bb, ob, nb, cb, kb, db⟩ S H ⟨hta.below hb, eA, t0.1⟩ ⟨htb.below hb, eB, t2.2⟩ (by omega) (by omega)
    · rw [cr_both hD] at hCR
      exact sig_D A B na nb ca cb da db S L H _ ka kb w hA0 hB0 hA hB na1 nb1 hF hCR hBE (by simpa using hD)
  · have q : (decide ((na : Int) ≤ 14) && decide ((nb : Int) ≤ 14)) = false := by simp; omega
    rw [q] at hF
    exact sig_0 A B na nb ca cb da db S L H w hF
theorem array3 {cs : Array Value} (h : cs.size = 3) : ∃ a b c, cs = #[a, b, c] := by
  obtain ⟨l⟩ := cs
  match l, h with
  | [a, b, c], _ => exact ⟨a, b, c, rfl⟩
theorem cells3s : Tryz.prog.cellsOf 44 = 3 := by kernel_rfl
theorem cells2r : Tryz.prog.cellsOf 29 = 2 := by kernel_rfl
set_option maxRecDepth 100000 in
theorem read_range {Ht : Type} {enc : TypeId × Value → Ht} {w : World} {base : Nat} {sp : Nat → Bool} {held : Bool} {n : Nat} {c0 c1 : Value} {x : DataW Ht × List MemPlace} (h : DataW.trod enc Tryz.prog w base sp held n 29 [c0, c1] = some x) : ∃ a b : Int, c0 = .int .i64 a ∧ c1 = .int .i64 b := by
  obtain ⟨xs, m, _, _, hl, hlen, hg⟩ := DataW.trod_struct Tryz.underlying29 h
  match xs, hlen with
  | [y0, y1], _ =>
    have h0 := hg 0 _ rfl
    have h1 := hg 1 _ rfl
    simp [cells1] at h0 h1
    obtain ⟨a, e0, _, _⟩ := DataW.trod_int Tryz.underlying3 h0
    obtain ⟨b, e1, _, _⟩ := DataW.trod_int Tryz.underlying3 h1
    simp at e0 e1
    exact ⟨a, b, e0, e1⟩
set_option maxRecDepth 100000 in
theorem open_signal {Ht : Type} {enc : TypeId × Value → Ht} {w : World} {base : Nat} {sp : Nat → Bool} {held : Bool} {r : Reach} {b0 : Nat} {v : Value} {d : DataW Ht} {p : List MemPlace} (hv : Value.okWide Tryz.prog w r b0 44 v) (h : DataW.Trod enc Tryz.prog w base sp held 44 v d p) :
    ∃ a b c : Int, v = .agg #[.int .i64 a, .int .i64 b, .int .i64 c] := by
  obtain ⟨cs, rfl, hsz⟩ : ∃ cs, v = .agg cs ∧ cs.size = Tryz.prog.cellsOf 44 := by
    simp only [Value.okWide, Tryz.underlying44] at hv
    obtain ⟨cs, h1, h2, _⟩ := hv
    exact ⟨cs, h1, h2⟩
  obtain ⟨c0, c1, c2, rfl⟩ := array3 (hsz.trans cells3s)
  obtain ⟨fuel, hf⟩ := h
  obtain ⟨xs, m, _, _, hl, hlen, hg⟩ := DataW.trod_struct Tryz.underlying44 hf
  match xs, hlen with
  | [y0, y1], _ =>
    have h0 := hg 0 _ rfl
    have h1 := hg 1 _ rfl
    simp [cells1, cells2r] at h0 h1
    obtain ⟨a, e0, _, _⟩ := DataW.trod_int Tryz.underlying3 h0
    obtain ⟨b, c, e1, e2⟩ := read_range h1
    obtain rfl : c0 = .int .i64 a := by
      have q : [c0] = [Value.int .i64 a] := e0
      simpa using q
    subst e1 e2
    exact ⟨a, b, c, rfl⟩
set_option maxRecDepth 100000 in
theorem pathSignals_lifted (os : Os) (started : os.Started) (H : Type) (enc : TypeId × Value → H) :
    ReturnsInHanded {} Tryz.checked os 5 .any (Rows.pathSignalsSpec.pre6 enc Tryz.prog Tryz.f5 Rows.pathSignalsRow.domain false) (Rows.pathSignalsSpec.post enc Tryz.prog Tryz.f5 false true false false) := by
  refine returnsInHanded_of_change (C := Tryz.checked) owned started (by kernel_rfl) Tryz.func5
    (ChangeSpec.witness6 (enc := enc) (C := Tryz.checked) false ⟨#[], #[.agg #[.slice none 0 0, .int .i64 0], .agg #[.slice none 0 0, .int .i64 0], .agg #[.int .i64 0, .int .i64 0, .int .i64 0]], []⟩ 8 (by kernel_rfl) (by kernel_rfl) (by kernel_rfl) (by kernel_rfl)) ?_
  intro W base args ds gs before hval0 hW hcnd _
  have hval : ∀ (j : Nat) t v, Tryz.f5.params[j]? = some t → args[j]? = some v → Value.okWide Tryz.prog W .any base t v := hval0
  have hW' := hW
  obtain ⟨p, q, hA0, hV, rfl, hfz, hnd⟩ := hW
  have hA : DataW.TrodAll enc Tryz.prog W 0 (fun _ => true) true Tryz.f5.params.toList args.toList ds p := hA0
  rw [Tryz.params5] at hA hval
  obtain ⟨v0, vs0, d0, ds0, p0, q0, hargs, rfl, rfl, h0, r0⟩ := trodAll_cons hA
  obtain ⟨v1, vs1, d1, ds1, p1, q1, rfl, rfl, rfl, h1, r1⟩ := trodAll_cons r0
  obtain ⟨v2, vs2, d2, ds2, p2, q2, rfl, rfl, rfl, h2, r2⟩ := trodAll_cons r1
  obtain ⟨rfl, rfl, rfl⟩ := trodAll_nil r2
  obtain rfl : args = #[v0, v1, v2] := by cases args; simp_all
  obtain ⟨rfl, rfl⟩ := trodVars_none hV
  have k0 := h0
  have k1 := h1
  have lt0 : ∀ x ∈ p0, x.block < W.heap.size := by obtain ⟨m, hm⟩ := k0; exact DataW.trod_lt m _ _ _ hm
  have lt1 : ∀ x ∈ p1, x.block < W.heap.size := by obtain ⟨m, hm⟩ := k1; exact DataW.trod_lt m _ _ _ hm
  obtain ⟨A, n, c, k, db, rfl, hn, hA1, hA2⟩ := open_track (hval 0 24 v0 rfl rfl) h0
  obtain ⟨B, m, c', k', db', rfl, hm, hB1, hB2⟩ := open_track (hval 1 24 v1 rfl rfl) h1
  have k2 := h2
  have lt2 : ∀ x ∈ p2, x.block < W.heap.size := by obtain ⟨m, hm⟩ := k2; exact DataW.trod_lt m _ _ _ hm
  obtain ⟨S, L, Hx, rfl⟩ := open_signal (hval 2 44 v2 rfl rfl) h2
  clear hA0 hval0
  refine (pathSignals_any A B n m c c' db db' S L Hx k k' W hn hm hA1 hB1 hA2 hB2).mono fun e W' ⟨he, bel⟩ => ?_
  subst he
  exact ⟨_, rfl, _, _, _, [], _, [], hW', trodAll_mk1 (shut_bool Tryz.underlying4 _), (trodAll_cons_mk (Below.trod laidAll (by kernel_rfl) (of_decide_eq_true (by kernel_rfl)) k0 bel lt0) (trodAll_cons_mk (Below.trod laidAll (by kernel_rfl) (of_decide_eq_true (by kernel_rfl)) k1 bel lt1) (trodAll_cons_mk (Below.trod laidAll (by kernel_rfl) (of_decide_eq_true (by kernel_rfl)) k2 bel lt2) trodAll_mk0))), rfl, bel.frame _, fun h => by cases h⟩
theorem pathSignals_over : Rows.pathSignalsRow.holds Tryz.pinned (OpenSpec.ofChange Rows.pathSignalsSpec) :=
  OpenClaim.holds_of_wide 5 Tryz.f5 rfl rfl rfl rfl rfl rfl rfl ⟨by kernel_rfl, by kernel_rfl, by kernel_rfl, by kernel_rfl, by kernel_rfl⟩ rfl rfl rfl rfl rfl (by kernel_rfl) Tryz.func5 (by kernel_rfl)
    (of_decide_eq_true (by kernel_rfl)) (by unfold Func.isWrapper; first | (rw [if_pos (by decide +kernel)]; kernel_rfl) | (rw [if_neg (by decide +kernel)]; exact ⟨rfl, rfl⟩))
    (fun os started H enc _ => pathSignals_lifted os started H enc)
/-- THE STATEMENT. -/
theorem pathSignals_holds : Rows.PathSignalsSaid := pathSignals_over
end Go.Proofs.YtnfoagcpgegldaaGreat
