/- Helpers: rows of numbers that are made and filled; the turns of a program; the bound of a norm. No condition but the hypotheses that each theorem names. -/
import Derived.Test.YtpkacfgmojblbaaB03
import Derived.Laws.OwnMore
import Derived.Laws.ComplexArith
namespace Go.Proofs.Ytpkacfgmojblbaa
open Go.RowKit
attribute [local go_sem] old1 fro1 old2 fro2 old3 fro3 old4 fro4 old5 fro5 old6 fro6 old7 fro7 old8 fro8 old9 fro9 old10 fro10 old11 fro11 old12 fro12
theorem infoInt : (Try.prog.info? 3).map (fun i => (i.zero, i.size, i.bytes)) = some (some (.int .i64 0), 1, 8) := by kernel_rfl
theorem undInts : Try.prog.underlying 38 = some (.slice 3) := by kernel_rfl
theorem below_none {w w1 : World} (h : w.grownBy w1 none) : Below w.heap.size w w1 := (Below.refl _ _).grown h (Nat.le_refl _) (fun _ h => by cases h)
/-- a row of numbers in a block of its own, that may be written -/
def IM (w : World) (G n : Nat) (f : Nat → Int) : Prop := G < w.heap.size ∧ ∀ i, i < n → w.cell? ⟨G, i, none⟩ = some (.int .i64 (f i)) ∧ w.frozen? ⟨G, i, none⟩ = false
theorem made_im {w1 : World} {base e G n : Nat} (h : w1.ownsRow base e 1 (.slice (some ⟨G, 0, none⟩) n n) n (madeCells (Value.int .i64 0).cells (n * 1)).toList) : IM w1 G n (fun _ => 0) := by
  refine ⟨(h.lt G rfl).2, fun i hi => ⟨?_, h.frozenAt i⟩⟩
  have := h.cells (g := G) rfl i (.int .i64 0) (by simp [madeCells, Value.cells, hi, Nat.mod_one])
  rwa [addr_addI, Nat.zero_add] at this
theorem IM.on {w w1 : World} {G n : Nat} {f : Nat → Int} (h : IM w G n f) (hb : Below w.heap.size w w1) : IM w1 G n f :=
  ⟨Nat.lt_of_lt_of_le h.1 hb.size, fun i hi => ⟨keep hb (h.2 i hi).1, (hb.frozen (p := ⟨G, i, none⟩) h.1).trans (h.2 i hi).2⟩⟩
theorem IM.set {w : World} {G n k : Nat} {f : Nat → Int} (h : IM w G n f) (hk : k < n) (v : Int) : IM (w.setCell ⟨G, k, none⟩ (.int .i64 v)) G n (fun i => if i = k then v else f i) := by
  refine ⟨by simpa using h.1, fun i hi => ⟨?_, (World.frozen?_setCell _ _ _ _).trans (h.2 i hi).2⟩⟩
  by_cases e : i = k
  · subst e
    simp only [if_true]
    exact World.cell?_setCell_same' _ _ _ (by rw [(h.2 i hi).1]; rfl)
  · simp only [if_neg e]
    exact (World.cell?_setCell_other _ _ _ _ (by simp)).trans (h.2 i hi).1
theorem IM.same {w : World} {G n : Nat} {f g : Nat → Int} (h : IM w G n f) (he : ∀ i, i < n → f i = g i) : IM w G n g := ⟨h.1, fun i hi => by rw [← he i hi]; exact h.2 i hi⟩
theorem IM.ia {w : World} {G n : Nat} {f : Nat → Int} (h : IM w G n f) : IA w (some ⟨G, 0, none⟩) n f := fun _ => ⟨G, 0, rfl, fun i hi => by rw [Nat.zero_add]; exact (h.2 i hi).1⟩
def upto (k : Nat) (f : Nat → Int) (i : Nat) : Int := if i < k then f i else 0

set_option maxRecDepth 100000 in
set_option maxHeartbeats 800000 in
theorem turnsOf_err (ph inc ch ct E : Int) (hE : fs2 (prgE ph inc ch) (rgE ct 0 400) = E) (h0 : E ≠ 0) (w : World) :
    Calls Try.prog 40 #[.agg #[.int .i64 ph, .int .i64 inc, .int .i64 ch], .int .i64 ct] w fun e w' => e = .returned (.tuple #[.slice none 0 0, .int .i64 E]) ∧ Below w.heap.size w w' := by
  have HPC := Lib.hid (fun W => programCheck_chk ph inc ch W)
  have HRG := Lib.hid (fun W => range_chk ct 0 400 W)
  have hq : (E != 0) = true := by simpa using h0
  clear h0
  go_enter Try.func40, Try.ntmps40
  go_wp2_with (first
    | (go_at_call 99; (with_reducible refine Calls.mono (HPC.out _) ?_); rintro e y1 ⟨v0, rfl, hb1, g0, f0, rfl, hg0, hh0⟩; have BV := Lib.hid (belowT (show Below w.heap.size w _ by (repeat (first | with_reducible exact Below.refl _ _ | with_reducible assumption | with_reducible refine Below.alloc ?_ (by first | (simp; done) | (simp; omega) | omega) _ | with_reducible refine Below.setCell ?_ (by first | (simp; done) | (simp; omega) | omega) _ | with_reducible refine Below.drew ?_ | with_reducible refine below_drewN ?_ _))) hb1); have l0 := keep hb1 (b := w.heap.size) (o := 0) (v := .int .i64 ph) (by simp [go_sem]); have l1 := keep hb1 (b := w.heap.size) (o := 1) (v := .int .i64 inc) (by simp [go_sem]); have l2 := keep hb1 (b := w.heap.size) (o := 2) (v := .int .i64 ch) (by simp [go_sem]); have K0 := Lib.hid (show Chk True _ (.func (.func g0) #[] f0) y1 from ⟨g0, f0, rfl, hg0, hh0⟩); clear hg0 hh0; clear hb1)
    | (go_at_call 88; (with_reducible refine Calls.mono (HRG.out _) ?_); rintro e y2 ⟨v1, rfl, hb2, g1, f1, rfl, hg1, hh1⟩; replace l0 := keep hb2 l0; replace l1 := keep hb2 l1; replace l2 := keep hb2 l2; replace BV := Lib.hid (belowT (show Below w.heap.size w _ by have Bq := BV.out; (repeat (first | with_reducible exact Below.refl _ _ | with_reducible assumption | with_reducible refine Below.alloc ?_ (by first | (simp; done) | (simp; omega) | omega) _ | with_reducible refine Below.setCell ?_ (by first | (simp; done) | (simp; omega) | omega) _ | with_reducible refine Below.drew ?_ | with_reducible refine below_drewN ?_ _))) hb2); have K1 := Lib.hid (show Chk True _ (.func (.func g1) #[] f1) y2 from ⟨g1, f1, rfl, hg1, hh1⟩); replace K0 := Lib.hid (K0.out.on hb2); clear hg1 hh1; clear hb2)
    | (go_at_call 87; (with_reducible refine Calls.mono (hE ▸ first_2 _ K0.out K1.out trivial (fun _ => trivial)) ?_); rintro e y3 ⟨rfl, hb3⟩; replace l0 := keep hb3 l0; replace l1 := keep hb3 l1; replace l2 := keep hb3 l2; replace BV := Lib.hid (belowT (show Below w.heap.size w _ by have Bq := BV.out; (repeat (first | with_reducible exact Below.refl _ _ | with_reducible assumption | with_reducible refine Below.alloc ?_ (by first | (simp; done) | (simp; omega) | omega) _ | with_reducible refine Below.setCell ?_ (by first | (simp; done) | (simp; omega) | omega) _ | with_reducible refine Below.drew ?_ | with_reducible refine below_drewN ?_ _))) hb3); clear hb3))
  go_ret2
  exact ⟨rfl, BV.out⟩
theorem upto_s (k : Nat) (f : Nat → Int) (i : Nat) : (if i = k then f k else upto k f i) = upto (k + 1) f i := by
  unfold upto
  by_cases h : i = k
  · subst h
    simp
  · rw [if_neg h]
    by_cases q : i < k
    · rw [if_pos q, if_pos (by omega)]
    · rw [if_neg q, if_neg (by omega)]
set_option maxRecDepth 100000 in
set_option maxHeartbeats 2000000 in
theorem turnsOf_ok (ph inc ch : Int) (n : Nat) (hp : prgE ph inc ch = 0) (hn : n ≤ 400) (w : World) :
    Calls Try.prog 40 #[.agg #[.int .i64 ph, .int .i64 inc, .int .i64 ch], .int .i64 n] w fun e w' => ∃ A c, e = .returned (.tuple #[.slice A n c, .int .i64 0]) ∧ IA w' A n (fun i => trn ph inc ch i) ∧ (A = none → n = 0 ∧ c = 0) ∧ Below w.heap.size w w' := by
  have HPC := Lib.hid (fun W => programCheck_chk ph inc ch W)
  have HRG := Lib.hid (fun W => range_chk n 0 400 W)
  have hE : fs2 (prgE ph inc ch) (rgE n 0 400) = 0 := by
    unfold fs2 rgE
    rw [if_pos hp, wi_t.2 (by omega)]
    rfl
  have HT := Lib.hid (fun (k : Nat) (hk : k < n) W => turnsAt_any ph inc ch k (prg_0 hp) (by omega) (by omega) W)
  obtain ⟨i0, hi0, hz0, hz1, hz2⟩ := info_parts infoInt
  generalize hf : trn ph inc ch = f at *
  clear hp
  go_enter Try.func40, Try.ntmps40
  go_wp2_with (first
    | (go_at_call 99; (with_reducible refine Calls.mono (HPC.out _) ?_); rintro e y1 ⟨v0, rfl, hb1, g0, f0, rfl, hg0, hh0⟩; have BV := Lib.hid (belowT (show Below w.heap.size w _ by (repeat (first | with_reducible exact Below.refl _ _ | with_reducible assumption | with_reducible refine Below.alloc ?_ (by first | (simp; done) | (simp; omega) | omega) _ | with_reducible refine Below.setCell ?_ (by first | (simp; done) | (simp; omega) | omega) _ | with_reducible refine Below.drew ?_ | with_reducible refine below_drewN ?_ _))) hb1); have l0 := keep hb1 (b := w.heap.size) (o := 0) (v := .int .i64 ph) (by simp [go_sem]); have l1 := keep hb1 (b := w.heap.size) (o := 1) (v := .int .i64 inc) (by simp [go_sem]); have l2 := keep hb1 (b := w.heap.size) (o := 2) (v := .int .i64 ch) (by simp [go_sem]); have K0 := Lib.hid (show Chk True _ (.func (.func g0) #[] f0) y1 from ⟨g0, f0, rfl, hg0, hh0⟩); clear hg0 hh0; clear hb1)
    | (go_at_call 88; (with_reducible refine Calls.mono (HRG.out _) ?_); rintro e y2 ⟨v1, rfl, hb2, g1, f1, rfl, hg1, hh1⟩; replace l0 := keep hb2 l0; replace l1 := keep hb2 l1; replace l2 := keep hb2 l2; replace BV := Lib.hid (belowT (show Below w.heap.size w _ by have Bq := BV.out; (repeat (first | with_reducible exact Below.refl _ _ | with_reducible assumption | with_reducible refine Below.alloc ?_ (by first | (simp; done) | (simp; omega) | omega) _ | with_reducible refine Below.setCell ?_ (by first | (simp; done) | (simp; omega) | omega) _ | with_reducible refine Below.drew ?_ | with_reducible refine below_drewN ?_ _))) hb2); have K1 := Lib.hid (show Chk True _ (.func (.func g1) #[] f1) y2 from ⟨g1, f1, rfl, hg1, hh1⟩); replace K0 := Lib.hid (K0.out.on hb2); clear hg1 hh1; clear hb2)
    | (go_at_call 87; (with_reducible refine Calls.mono (hE ▸ first_2 _ K0.out K1.out trivial (fun _ => trivial)) ?_); rintro e y3 ⟨rfl, hb3⟩; replace l0 := keep hb3 l0; replace l1 := keep hb3 l1; replace l2 := keep hb3 l2; replace BV := Lib.hid (belowT (show Below w.heap.size w _ by have Bq := BV.out; (repeat (first | with_reducible exact Below.refl _ _ | with_reducible assumption | with_reducible refine Below.alloc ?_ (by first | (simp; done) | (simp; omega) | omega) _ | with_reducible refine Below.setCell ?_ (by first | (simp; done) | (simp; omega) | omega) _ | with_reducible refine Below.drew ?_ | with_reducible refine below_drewN ?_ _))) hb3); clear hb3)
    | (at_make; go_loud (refine wpList_make_full _ rfl _ _ 38 rfl (y3.heap.size) 3 i0 _ 1 undInts hi0 hz0 hz1 .i64 .i64 n n n rfl rfl rfl rfl (by rw [hz2]; omega) (by unfold maxLen; omega) (by simp) ?_; intro wm hown hgrow; have hbm := below_none hgrow; have HM := Lib.hid (made_im hown); have BM := Lib.hid (belowT BV.out hbm); have hGw := lt_of l0; have e0 := keep hbm l0; have e1 := keep hbm l1; have e2 := keep hbm l2; clear hown hgrow hbm)))
  generalize y3.heap.size = G at *
  go_loopw [8, 22] (fun s8 s22 wr => ∃ k : Nat, k ≤ n ∧ s22 = .int .i64 k ∧ Below w.heap.size w wr ∧ (wr.cell? ⟨w.heap.size, 0, none⟩ = some (.int .i64 ph) ∧ wr.cell? ⟨w.heap.size, 1, none⟩ = some (.int .i64 inc) ∧ wr.cell? ⟨w.heap.size, 2, none⟩ = some (.int .i64 ch)) ∧ Hid (IM wr G n (upto k (fun i => f i)))) (fun _ i _ => n - (intOf i).toNat)
  case atStart => exact ⟨0, Nat.zero_le _, rfl, BM.out, ⟨e0, e1, e2⟩, HM.out.same (fun i _ => by simp [upto])⟩
  case round =>
    obtain ⟨k, hk, rfl, hbel, ⟨q0, q1, q2⟩, HI⟩ := hrel
    have HB := Lib.hid hbel
    clear hbel
    by_cases hlt : k < n
    · have hT := HT.out k hlt
      have HT2 := Lib.hid hT
      have p1 : (0 : Int) ≤ (k : Int) := by omega
      have p2 : (k : Int) < (n : Int) := by omega
      clear hT
      go_wp2_with (go_at_call 103; (with_reducible refine Calls.mono (HT2.out _) ?_); rintro e z1 ⟨rfl, hz⟩; have c1 := (HI.out.on hz).2 k hlt; have c1a := c1.1; have c1b := c1.2; have Q0 := keep hz q0; have Q1 := keep hz q1; have Q2 := keep hz q2; have HI2 := Lib.hid (HI.out.on hz); have HB2 := Lib.hid (belowT HB.out hz); have hGz := HB2.out.size; clear hz c1)
      go_roundw
      case rel =>
        refine ⟨k + 1, by omega, by go_num, HB2.out.setCell (by show w.heap.size ≤ G; omega) _, ⟨?_, ?_, ?_⟩, (HI2.out.set hlt (f k)).same fun i _ => upto_s k (fun i => f i) i⟩
        · exact (World.cell?_setCell_far _ _ _ _ (by show G ≠ w.heap.size; omega)).trans Q0
        · exact (World.cell?_setCell_far _ _ _ _ (by show G ≠ w.heap.size; omega)).trans Q1
        · exact (World.cell?_setCell_far _ _ _ _ (by show G ≠ w.heap.size; omega)).trans Q2
      case measure => simp [intOf]; omega
    · obtain rfl : k = n := by omega
      go_wp2
      go_ret2
      exact ⟨_, _, rfl, (HI.out.same fun i hi => by simp [upto, hi]).ia, (fun h => by cases h), HB.out⟩
def mnE (am ct : Int) : Int := fs2 (rgE am 0 2000) (rgE ct 0 400)
/-- the least norm -/
def mnV (am ct : Int) : Int := -(-(ct * ct * am * am) / 2)
set_option maxRecDepth 100000 in
set_option maxHeartbeats 800000 in
theorem minimumNorm_any (am ct : Int) (w : World) :
    Calls Try.prog 80 #[.int .i64 am, .int .i64 ct] w fun e w' => e = .returned (.tuple #[.int .i64 (if mnE am ct = 0 then mnV am ct else 0), .int .i64 (mnE am ct)]) ∧ Below w.heap.size w w' := by
  have HR1 := Lib.hid (fun W => range_chk am 0 2000 W)
  have HR2 := Lib.hid (fun W => range_chk ct 0 400 W)
  obtain ⟨E, hE⟩ : ∃ E, fs2 (rgE am 0 2000) (rgE ct 0 400) = E := ⟨_, rfl⟩
  by_cases h0 : E = 0
  · have hm : mnE am ct = 0 := hE.trans h0
    rw [if_pos hm, hm]
    have h1 : rgE am 0 2000 = 0 := by
      unfold mnE fs2 at hm
      by_cases q : rgE am 0 2000 = 0
      · exact q
      · rw [if_neg q] at hm; exact hm
    have h2 : rgE ct 0 400 = 0 := by
      unfold mnE fs2 at hm
      rwa [if_pos h1] at hm
    obtain ⟨a1, a2⟩ := rg_0 h1
    obtain ⟨c1, c2⟩ := rg_0 h2
    subst h0
    have m1 := mbd (a := ct) (b := ct) (A := 400) (B := 400) (by omega) (by omega) (by omega) (by omega)
    have m2 := mbd (a := ct * ct) (b := am) (A := 160000) (B := 2000) (by omega) (by omega) (by omega) (by omega)
    have m3 := mbd (a := ct * ct * am) (b := am) (A := 320000000) (B := 2000) (by omega) (by omega) (by omega) (by omega)
    have x1 : IntKind.i64.wrap (ct * ct) = ct * ct := IntWalk.i64_in _ (by omega)
    have x2 : IntKind.i64.wrap (ct * ct * am) = ct * ct * am := IntWalk.i64_in _ (by omega)
    have x3 : IntKind.i64.wrap (ct * ct * am * am) = ct * ct * am * am := IntWalk.i64_in _ (by omega)
    have HC := Lib.hid (fun W => ceiling_any (ct * ct * am * am) 2 (by omega) (by omega) (by omega) (by omega) W)
    clear m1 m2 m3 h1 h2 a1 a2 c1 c2 hm
    unfold mnV
    go_enter Try.func80, Try.ntmps80
    go_wp2_with (first
      | (go_at_call 88; (with_reducible refine Calls.mono (HR1.out _) ?_); rintro e y1 ⟨v0, rfl, hb1, g0, f0, rfl, hg0, hh0⟩; have BV := Lib.hid (belowT (show Below w.heap.size w _ by (repeat (first | with_reducible exact Below.refl _ _ | with_reducible assumption | with_reducible refine Below.alloc ?_ (by first | (simp; done) | (simp; omega) | omega) _ | with_reducible refine Below.setCell ?_ (by first | (simp; done) | (simp; omega) | omega) _ | with_reducible refine Below.drew ?_ | with_reducible refine below_drewN ?_ _))) hb1); have K0 := Lib.hid (show Chk True _ (.func (.func g0) #[] f0) y1 from ⟨g0, f0, rfl, hg0, hh0⟩); clear hg0 hh0; clear hb1)
      | (go_at_call 88; (with_reducible refine Calls.mono (HR2.out _) ?_); rintro e y2 ⟨v1, rfl, hb2, g1, f1, rfl, hg1, hh1⟩; replace BV := Lib.hid (belowT (show Below w.heap.size w _ by have Bq := BV.out; (repeat (first | with_reducible exact Below.refl _ _ | with_reducible assumption | with_reducible refine Below.alloc ?_ (by first | (simp; done) | (simp; omega) | omega) _ | with_reducible refine Below.setCell ?_ (by first | (simp; done) | (simp; omega) | omega) _ | with_reducible refine Below.drew ?_ | with_reducible refine below_drewN ?_ _))) hb2); have K1 := Lib.hid (show Chk True _ (.func (.func g1) #[] f1) y2 from ⟨g1, f1, rfl, hg1, hh1⟩); replace K0 := Lib.hid (K0.out.on hb2); clear hg1 hh1; clear hb2)
      | (go_at_call 87; (with_reducible refine Calls.mono (hE ▸ first_2 _ K0.out K1.out trivial (fun _ => trivial)) ?_); rintro e y3 ⟨rfl, hb3⟩; replace BV := Lib.hid (belowT (show Below w.heap.size w _ by have Bq := BV.out; (repeat (first | with_reducible exact Below.refl _ _ | with_reducible assumption | with_reducible refine Below.alloc ?_ (by first | (simp; done) | (simp; omega) | omega) _ | with_reducible refine Below.setCell ?_ (by first | (simp; done) | (simp; omega) | omega) _ | with_reducible refine Below.drew ?_ | with_reducible refine below_drewN ?_ _))) hb3); clear hb3)
      | (go_at_call 123; (with_reducible refine Calls.mono (HC.out _) ?_); rintro e y9 ⟨rfl, rfl⟩))
    go_ret2
    exact ⟨rfl, BV.out⟩
  · have hm : mnE am ct = E := hE
    rw [if_neg (by rw [hm]; exact h0), hm]
    have hq : (E != 0) = true := by simpa using h0
    clear h0 hm
    go_enter Try.func80, Try.ntmps80
    go_wp2_with (first
      | (go_at_call 88; (with_reducible refine Calls.mono (HR1.out _) ?_); rintro e y1 ⟨v0, rfl, hb1, g0, f0, rfl, hg0, hh0⟩; have BV := Lib.hid (belowT (show Below w.heap.size w _ by (repeat (first | with_reducible exact Below.refl _ _ | with_reducible assumption | with_reducible refine Below.alloc ?_ (by first | (simp; done) | (simp; omega) | omega) _ | with_reducible refine Below.setCell ?_ (by first | (simp; done) | (simp; omega) | omega) _ | with_reducible refine Below.drew ?_ | with_reducible refine below_drewN ?_ _))) hb1); have K0 := Lib.hid (show Chk True _ (.func (.func g0) #[] f0) y1 from ⟨g0, f0, rfl, hg0, hh0⟩); clear hg0 hh0; clear hb1)
      | (go_at_call 88; (with_reducible refine Calls.mono (HR2.out _) ?_); rintro e y2 ⟨v1, rfl, hb2, g1, f1, rfl, hg1, hh1⟩; replace BV := Lib.hid (belowT (show Below w.heap.size w _ by have Bq := BV.out; (repeat (first | with_reducible exact Below.refl _ _ | with_reducible assumption | with_reducible refine Below.alloc ?_ (by first | (simp; done) | (simp; omega) | omega) _ | with_reducible refine Below.setCell ?_ (by first | (simp; done) | (simp; omega) | omega) _ | with_reducible refine Below.drew ?_ | with_reducible refine below_drewN ?_ _))) hb2); have K1 := Lib.hid (show Chk True _ (.func (.func g1) #[] f1) y2 from ⟨g1, f1, rfl, hg1, hh1⟩); replace K0 := Lib.hid (K0.out.on hb2); clear hg1 hh1; clear hb2)
      | (go_at_call 87; (with_reducible refine Calls.mono (hE ▸ first_2 _ K0.out K1.out trivial (fun _ => trivial)) ?_); rintro e y3 ⟨rfl, hb3⟩; replace BV := Lib.hid (belowT (show Below w.heap.size w _ by have Bq := BV.out; (repeat (first | with_reducible exact Below.refl _ _ | with_reducible assumption | with_reducible refine Below.alloc ?_ (by first | (simp; done) | (simp; omega) | omega) _ | with_reducible refine Below.setCell ?_ (by first | (simp; done) | (simp; omega) | omega) _ | with_reducible refine Below.drew ?_ | with_reducible refine below_drewN ?_ _))) hb3); clear hb3))
    go_ret2
    exact ⟨rfl, BV.out⟩
end Go.Proofs.Ytpkacfgmojblbaa
namespace Go.Proofs.Ytpkacfgmojblbaa
open Ieee
theorem signed_def (s : Bool) (m up : Nat) : signed s m up = if s then -((m * 2 ^ up : Nat) : Int) else ((m * 2 ^ up : Nat) : Int) := by
  unfold signed
  rw [Nat.shiftLeft_eq]
theorem signed_add (s : Bool) (m a k : Nat) : signed s m (a + k) = signed s m a * 2 ^ k := by
  rw [signed_def, signed_def, Nat.pow_add, ← Nat.mul_assoc]
  cases s <;> simp [Int.natCast_mul, Int.natCast_pow, Int.neg_mul]
theorem signed_0 (s : Bool) (a : Nat) : signed s 0 a = 0 := by
  rw [signed_def]
  cases s <;> simp
/-- 'm * 2 ^ p' with its sign is the whole number n -/
def Val (s : Bool) (m : Nat) (p n : Int) : Prop := ∃ a b : Nat, p = (a : Int) - (b : Int) ∧ signed s m a = n * 2 ^ b
theorem p2_pos (k : Nat) : (0 : Int) < 2 ^ k := Int.pow_pos (by decide)
theorem p2_ne (k : Nat) : (2 : Int) ^ k ≠ 0 := Int.ne_of_gt (p2_pos k)
theorem Val.at' {s : Bool} {m : Nat} {p n : Int} (h : Val s m p n) (a b : Nat) (hp : p = (a : Int) - (b : Int)) : signed s m a = n * 2 ^ b := by
  obtain ⟨a0, b0, h0, h1⟩ := h
  rcases Nat.le_total a a0 with q | q
  · obtain ⟨k, rfl⟩ : ∃ k, a0 = a + k := ⟨a0 - a, by omega⟩
    obtain rfl : b0 = b + k := by omega
    rw [signed_add, Int.pow_add, ← Int.mul_assoc] at h1
    exact Int.eq_of_mul_eq_mul_right (p2_ne k) h1
  · obtain ⟨k, rfl⟩ : ∃ k, a = a0 + k := ⟨a - a0, by omega⟩
    obtain rfl : b = b0 + k := by omega
    rw [signed_add, h1, Int.pow_add, ← Int.mul_assoc]
theorem Val.whole (n : Int) : Val (n < 0) n.natAbs 0 n := by
  refine ⟨0, 0, rfl, ?_⟩
  rw [signed_def]
  by_cases h : n < 0
  · simp [h]; omega
  · simp [h]; omega
theorem signed_abs (z : Int) (s : Bool) (h : z ≠ 0 → s = decide (z < 0)) (a : Nat) : signed s z.natAbs a = z * 2 ^ a := by
  have e := signed_add s z.natAbs 0 a
  rw [Nat.zero_add] at e
  rw [e]
  congr 1
  rw [signed_def]
  by_cases hz : z = 0
  · subst hz
    cases s <;> rfl
  · rw [h hz]
    by_cases q : z < 0
    · simp [q]; omega
    · simp [q]; omega
theorem Val.sum {s t : Bool} {m n : Nat} {i j x y : Int} (hx : Val s m i x) (hy : Val t n j y) :
    ∃ u k p, Datum.sum (.number s m i) (.number t n j) = some (.number u k p) ∧ Val u k p (x + y) := by
  refine ⟨_, _, _, rfl, ?_⟩
  have hi : min i j ≤ i := by omega
  have hj : min i j ≤ j := by omega
  generalize min i j = base at *
  obtain ⟨a, b, hab⟩ : ∃ a b : Nat, base = (a : Int) - (b : Int) := ⟨base.toNat, (-base).toNat, by omega⟩
  refine ⟨a, b, hab, ?_⟩
  have ex := hx.at' ((i - base).toNat + a) b (by omega)
  have ey := hy.at' ((j - base).toNat + a) b (by omega)
  rw [signed_add] at ex ey
  rw [signed_abs _ _ ?_ a, Int.add_mul, Int.add_mul, ex, ey]
  intro hne
  rw [if_neg hne]
theorem Val.opposite {s : Bool} {m : Nat} {i x : Int} (hx : Val s m i x) : Val (!s) m i (-x) := by
  obtain ⟨a, b, h, e⟩ := hx
  refine ⟨a, b, h, ?_⟩
  rw [signed_def] at e ⊢
  rw [Int.neg_mul, ← e]
  cases s <;> simp
theorem signed_mul (s t : Bool) (m n a b : Nat) : signed (s ^^ t) (m * n) (a + b) = signed s m a * signed t n b := by
  have e : (m * n * 2 ^ (a + b) : Nat) = (m * 2 ^ a) * (n * 2 ^ b) := by
    rw [Nat.pow_add]
    simp only [Nat.mul_assoc, Nat.mul_left_comm]
  rw [signed_def, signed_def, signed_def, e, Int.natCast_mul]
  generalize ((m * 2 ^ a : Nat) : Int) = u
  generalize ((n * 2 ^ b : Nat) : Int) = v
  cases s <;> cases t <;> simp [Int.neg_mul, Int.mul_neg]
theorem Val.product {s t : Bool} {m n : Nat} {i j x y : Int} (hx : Val s m i x) (hy : Val t n j y) :
    ∃ u k p, Datum.product (.number s m i) (.number t n j) = some (.number u k p) ∧ Val u k p (x * y) := by
  refine ⟨_, _, _, rfl, ?_⟩
  obtain ⟨a, b, h, e⟩ := hx
  obtain ⟨a', b', h', e'⟩ := hy
  refine ⟨a + a', b + b', by omega, ?_⟩
  rw [signed_mul, e, e', Int.pow_add]
  simp only [Int.mul_assoc, Int.mul_left_comm]
theorem Val.abs {s : Bool} {m : Nat} {p n : Int} (h : Val s m p n) (a b : Nat) (hp : p = (a : Int) - (b : Int)) : m * 2 ^ a = n.natAbs * 2 ^ b := by
  have e := congrArg Int.natAbs (h.at' a b hp)
  rw [Int.natAbs_mul, Int.natAbs_pow, signed_def] at e
  generalize m * 2 ^ a = z at e ⊢
  cases s
  · exact e
  · exact (Int.natAbs_neg _).symm.trans e
theorem Val.sign {s : Bool} {m : Nat} {p n : Int} (h : Val s m p n) (hn : n ≠ 0) : s = decide (n < 0) := by
  obtain ⟨a, b, hp, e⟩ := h
  have hb := p2_pos b
  rw [signed_def] at e
  generalize m * 2 ^ a = z at e
  rcases Int.lt_trichotomy n 0 with q | q | q
  · have := Int.mul_neg_of_neg_of_pos q hb
    cases s
    · simp at e; omega
    · simp [q]
  · exact absurd q hn
  · have := Int.mul_pos q hb
    cases s
    · simp; omega
    · simp at e; omega
theorem Val.zero {s : Bool} {p n : Int} (h : Val s 0 p n) : n = 0 := by
  obtain ⟨a, b, _, e⟩ := h
  rw [signed_0] at e
  rcases Int.mul_eq_zero.1 e.symm with q | q
  · exact q
  · exact absurd q (p2_ne b)
theorem log2_of {n k : Nat} (h1 : 2 ^ k ≤ n) (h2 : n < 2 ^ (k + 1)) : n.log2 = k := by
  have hn : n ≠ 0 := by
    have := Nat.two_pow_pos k
    omega
  have a : n.log2 < k + 1 := (Nat.log2_lt hn).2 h2
  have b : ¬ n.log2 < k := fun q => by
    have := (Nat.log2_lt hn).1 q
    omega
  omega
theorem log2_shift {n : Nat} (hn : n ≠ 0) (a : Nat) : (n * 2 ^ a).log2 = n.log2 + a := by
  refine log2_of ?_ ?_
  · rw [Nat.pow_add]
    exact Nat.mul_le_mul_right _ (Nat.log2_self_le hn)
  · rw [show n.log2 + a + 1 = (n.log2 + 1) + a by omega, Nat.pow_add]
    exact Nat.mul_lt_mul_of_pos_right Nat.lt_log2_self (Nat.two_pow_pos a)
/-- The format has room for whole numbers of all its digits. -/
structure Room (f : Format) : Prop where
  least : f.leastPlace ≤ -(f.fractionBits : Int)
  rungs : (-f.leastPlace).toNat + 2 ≤ 2 ^ f.exponentBits - 1
theorem room (k : FloatKind) : Room k.format := by
  cases k
  · exact ⟨by decide, by decide⟩
  · exact ⟨by decide, by decide⟩
theorem cut_even_0 (neg : Bool) (x : Nat) : Toward.even.cut neg x 0 = x := by
  simp [Toward.cut, Nat.mod_one]
theorem cut_even (neg : Bool) (N q D : Nat) (hN : N ≠ 0) : Toward.even.cut neg (N * 2 ^ (q + D)) D = N * 2 ^ q := by
  have hl : (N * 2 ^ (q + D)).log2 = N.log2 + (q + D) := log2_shift hN _
  have hg : (1 : Nat) <<< min D ((N * 2 ^ (q + D)).log2 + 2) = 2 ^ D := by
    rw [hl, Nat.min_eq_left (by omega), Nat.shiftLeft_eq, Nat.one_mul]
  have hp := Nat.two_pow_pos D
  have e : N * 2 ^ (q + D) = N * 2 ^ q * 2 ^ D := by rw [Nat.pow_add, Nat.mul_assoc]
  unfold Toward.cut
  simp only [hg]
  rw [e, Nat.mul_div_cancel _ hp, Nat.mul_mod_left]
  have h1 : (2 ^ D < 2 * 0) = False := by simp
  have h2 : (2 ^ D == 2 * 0) = false := by
    rw [beq_eq_false_iff_ne]
    omega
  simp [h2]
theorem kept_eq {neg : Bool} {mag : Nat} {place n : Int} {f : Format} (r : Room f) (h : Val neg mag place n) (hm : mag ≠ 0) (hb : n.natAbs < 2 ^ (f.fractionBits + 1)) :
    n.natAbs ≠ 0 ∧ n.natAbs.log2 ≤ f.fractionBits ∧ max (place + mag.log2 - f.fractionBits) f.leastPlace = (n.natAbs.log2 : Int) - f.fractionBits ∧
      Toward.even.cut neg (mag <<< (place - ((n.natAbs.log2 : Int) - f.fractionBits)).toNat) (((n.natAbs.log2 : Int) - f.fractionBits) - place).toNat = n.natAbs * 2 ^ (f.fractionBits - n.natAbs.log2) := by
  obtain ⟨a, b, hab, hz⟩ : ∃ a b : Nat, place = (a : Int) - (b : Int) ∧ (a = 0 ∨ b = 0) := ⟨place.toNat, (-place).toNat, by omega, by omega⟩
  have e := h.abs a b hab
  have hN : n.natAbs ≠ 0 := by
    intro q
    rw [q, Nat.zero_mul] at e
    rcases Nat.mul_eq_zero.1 e with q | q
    · exact hm q
    · exact absurd q (Nat.ne_of_gt (Nat.two_pow_pos a))
  have hl : n.natAbs.log2 < f.fractionBits + 1 := (Nat.log2_lt hN).2 hb
  have el : mag.log2 + a = n.natAbs.log2 + b := by rw [← log2_shift hm a, ← log2_shift hN b, e]
  have hr := r.least
  refine ⟨hN, by omega, by omega, ?_⟩
  generalize n.natAbs = N at *
  generalize N.log2 = l at *
  generalize f.fractionBits = F at *
  by_cases q : mag.log2 ≤ F
  · rw [show ((l : Int) - F - place).toNat = 0 by omega, cut_even_0, Nat.shiftLeft_eq]
    refine Nat.eq_of_mul_eq_mul_right (Nat.two_pow_pos b) ?_
    rw [Nat.mul_assoc, ← Nat.pow_add, Nat.mul_right_comm, ← e, Nat.mul_assoc, ← Nat.pow_add]
    congr 2
    omega
  · obtain ⟨D, hD⟩ : ∃ D : Nat, ((l : Int) - F - place).toNat = D := ⟨_, rfl⟩
    have em : mag = N * 2 ^ (F - l + D) := by
      refine Nat.eq_of_mul_eq_mul_right (Nat.two_pow_pos a) ?_
      rw [e, Nat.mul_assoc, ← Nat.pow_add]
      congr 2
      omega
    rw [hD, show (place - ((l : Int) - F)).toNat = 0 by omega, Nat.shiftLeft_zero, em]
    exact cut_even neg N _ D hN
theorem read_rung (f : Format) (neg : Bool) (e k : Nat) (h : (e + 2) * f.binade ≤ f.infRung) (hk : k < f.binade) :
    f.read (f.word neg (e * f.binade + (f.binade + k))) = .number neg (f.binade + k) (f.leastPlace + (e : Nat)) := by
  have hS := f.infRung_lt
  have hB : 0 < f.binade := Nat.two_pow_pos _
  have e1 : e * f.binade + (f.binade + k) = k + f.binade * (e + 1) := by
    rw [Nat.mul_add, Nat.mul_comm]; omega
  have h2 : (e + 2) * f.binade = f.binade * (e + 1) + f.binade := by
    rw [show e + 2 = (e + 1) + 1 by omega, Nat.add_mul, Nat.one_mul, Nat.mul_comm]
  have hr : k + f.binade * (e + 1) < f.infRung := by omega
  have h3 : f.binade ≤ k + f.binade * (e + 1) := by
    have : f.binade * 1 ≤ f.binade * (e + 1) := Nat.mul_le_mul_left _ (by omega)
    omega
  rw [e1]
  generalize hR : k + f.binade * (e + 1) = R at *
  have hmod : R % f.binade = k := by rw [← hR, Nat.add_mul_mod_self_left, Nat.mod_eq_of_lt hk]
  have hdiv : R / f.binade = e + 1 := by rw [← hR, Nat.add_mul_div_left _ _ hB, Nat.div_eq_of_lt hk, Nat.zero_add]
  have hneg : (f.word neg R / f.signWeight % 2 == 1) = neg := by
    cases neg
    · simp [Format.word, Nat.div_eq_of_lt (show R < f.signWeight by omega)]
    · have : (f.signWeight + R) / f.signWeight = 1 := by
        rw [Nat.add_div_left _ (by omega), Nat.div_eq_of_lt (by omega)]
      simp [Format.word, this]
  have hlow : f.word neg R % f.signWeight = R := by
    cases neg
    · simp [Format.word, Nat.mod_eq_of_lt (show R < f.signWeight by omega)]
    · simp [Format.word, Nat.mod_eq_of_lt (show R < f.signWeight by omega)]
  unfold Format.read
  simp only [hneg, hlow, hmod, hdiv]
  rw [if_neg (by omega), if_pos hr]
  simp
theorem read_zero (f : Format) (neg : Bool) : f.read (f.word neg 0) = .number neg 0 f.leastPlace := by
  have hS : 0 < f.signWeight := Nat.two_pow_pos _
  have hB : 0 < f.binade := Nat.two_pow_pos _
  cases neg
  · simp [Format.read, Format.word, hB]
  · simp [Format.read, Format.word, hB, Nat.div_self hS]
/-- The nearest float of a whole number of few digits is that number. -/
theorem read_nearest {neg : Bool} {mag : Nat} {place n : Int} {f : Format} (r : Room f) (h : Val neg mag place n) (hb : n.natAbs < 2 ^ (f.fractionBits + 1)) :
    ∃ m p, f.read (f.nearest neg mag place) = .number neg m p ∧ Val neg m p n := by
  have hr := r.least
  by_cases hm : mag = 0
  · subst hm
    obtain rfl := h.zero
    refine ⟨0, f.leastPlace, ?_, 0, (-f.leastPlace).toNat, by omega, by rw [signed_0, Int.zero_mul]⟩
    unfold Format.nearest
    rw [if_pos rfl]
    exact read_zero f neg
  · obtain ⟨hN, hl, e1, e2⟩ := kept_eq r h hm hb
    have hs := h.sign (by omega)
    have k1 : 2 ^ f.fractionBits ≤ n.natAbs * 2 ^ (f.fractionBits - n.natAbs.log2) := by
      have := Nat.mul_le_mul_right (2 ^ (f.fractionBits - n.natAbs.log2)) (Nat.log2_self_le hN)
      rwa [← Nat.pow_add, show n.natAbs.log2 + (f.fractionBits - n.natAbs.log2) = f.fractionBits by omega] at this
    have k2 : n.natAbs * 2 ^ (f.fractionBits - n.natAbs.log2) < 2 ^ (f.fractionBits + 1) := by
      have := Nat.mul_lt_mul_of_pos_right (Nat.lt_log2_self (n := n.natAbs)) (Nat.two_pow_pos (f.fractionBits - n.natAbs.log2))
      rwa [← Nat.pow_add, show n.natAbs.log2 + 1 + (f.fractionBits - n.natAbs.log2) = f.fractionBits + 1 by omega] at this
    obtain ⟨k, hk⟩ : ∃ k, n.natAbs * 2 ^ (f.fractionBits - n.natAbs.log2) = f.binade + k := ⟨_, (Nat.add_sub_of_le k1).symm⟩
    have hkb : k < f.binade := by
      rw [hk, Nat.pow_succ] at k2
      show k < 2 ^ f.fractionBits
      have : f.binade = 2 ^ f.fractionBits := rfl
      omega
    obtain ⟨e, he⟩ : ∃ e : Nat, (((n.natAbs.log2 : Int) - f.fractionBits) - f.leastPlace).toNat = e := ⟨_, rfl⟩
    have hroom : (e + 2) * f.binade ≤ f.infRung := Nat.mul_le_mul_right _ (Nat.le_trans (by omega) r.rungs)
    have hlt : e * f.binade + (f.binade + k) < f.infRung := by
      have : (e + 2) * f.binade = e * f.binade + (f.binade + f.binade) := by rw [Nat.add_mul, Nat.two_mul]
      omega
    refine ⟨f.binade + k, f.leastPlace + (e : Nat), ?_, 0, f.fractionBits - n.natAbs.log2, by omega, ?_⟩
    · unfold Format.nearest
      rw [if_neg hm]
      simp only [e1]
      rw [e2, hk, he, Nat.min_eq_left (Nat.le_of_lt hlt)]
      exact read_rung f neg e k hroom hkb
    · rw [← hk, signed_def, Nat.pow_zero, Nat.mul_one, hs]
      rw [Int.natCast_mul, Int.natCast_pow]
      by_cases q : n < 0
      · simp [q, Int.ofNat_natAbs_of_nonpos (Int.le_of_lt q), Int.neg_mul]
      · simp [q, Int.natAbs_of_nonneg (show 0 ≤ n by omega)]
/-- The bits b are the whole number n. -/
def FI (k : FloatKind) (b : Nat) (n : Int) : Prop := ∃ s m p, k.decode b = .number s m p ∧ Val s m p n
/-- the greatest number of which all below are floats -/
def fmx (k : FloatKind) : Nat := 2 ^ (k.format.fractionBits + 1)
theorem FI.enc {k : FloatKind} {s : Bool} {m : Nat} {p n : Int} (h : Val s m p n) (hb : n.natAbs < fmx k) : FI k (k.encode (.number s m p)) n := by
  obtain ⟨m', p', e, hv⟩ := read_nearest (room k) h hb
  exact ⟨s, m', p', e, hv⟩
theorem FI.ofInt {k : FloatKind} {n : Int} (hb : n.natAbs < fmx k) : FI k (floatOfInt k n) n := FI.enc (Val.whole n) hb
theorem FI.add {k : FloatKind} {x y : Nat} {a b : Int} (hx : FI k x a) (hy : FI k y b) (hb : (a + b).natAbs < fmx k) : ∃ r, floatBits .add k x y = some r ∧ FI k r (a + b) := by
  obtain ⟨s, m, p, e, hv⟩ := hx
  obtain ⟨t, n, q, e', hv'⟩ := hy
  obtain ⟨u, i, j, e2, h2⟩ := hv.sum hv'
  refine ⟨k.encode (.number u i j), ?_, FI.enc h2 hb⟩
  have e1 : k.format.read x = .number s m p := e
  have e1' : k.format.read y = .number t n q := e'
  show Option.map k.format.write ((k.format.read x).sum (k.format.read y)) = _
  rw [e1, e1', e2]
  rfl
theorem FI.sub {k : FloatKind} {x y : Nat} {a b : Int} (hx : FI k x a) (hy : FI k y b) (hb : (a - b).natAbs < fmx k) : ∃ r, floatBits .sub k x y = some r ∧ FI k r (a - b) := by
  obtain ⟨s, m, p, e, hv⟩ := hx
  obtain ⟨t, n, q, e', hv'⟩ := hy
  obtain ⟨u, i, j, e2, h2⟩ := hv.sum hv'.opposite
  refine ⟨k.encode (.number u i j), ?_, FI.enc h2 hb⟩
  have e1 : k.format.read x = .number s m p := e
  have e1' : k.format.read y = .number t n q := e'
  show Option.map k.format.write ((k.format.read x).sum (k.format.read y).opposite) = _
  rw [e1, e1']
  show Option.map k.format.write (Datum.sum (.number s m p) (.number (!t) n q)) = _
  rw [e2]
  rfl
theorem FI.mul {k : FloatKind} {x y : Nat} {a b : Int} (hx : FI k x a) (hy : FI k y b) (hb : (a * b).natAbs < fmx k) : ∃ r, floatBits .mul k x y = some r ∧ FI k r (a * b) := by
  obtain ⟨s, m, p, e, hv⟩ := hx
  obtain ⟨t, n, q, e', hv'⟩ := hy
  obtain ⟨u, i, j, e2, h2⟩ := hv.product hv'
  refine ⟨k.encode (.number u i j), ?_, FI.enc h2 hb⟩
  have e1 : k.format.read x = .number s m p := e
  have e1' : k.format.read y = .number t n q := e'
  show Option.map k.format.write ((k.format.read x).product (k.format.read y)) = _
  rw [e1, e1', e2]
  rfl
theorem FI.conv {k k' : FloatKind} {x : Nat} {a : Int} (hx : FI k x a) (hb : a.natAbs < fmx k') : ∃ r, floatToFloatBits k x k' = some r ∧ FI k' r a := by
  unfold floatToFloatBits
  by_cases h : k = k'
  · subst h
    rw [if_pos rfl]
    exact ⟨x, rfl, hx⟩
  · rw [if_neg h]
    obtain ⟨s, m, p, e, hv⟩ := hx
    have h2 := FI.enc hv hb
    obtain ⟨s', m', p', e2, _⟩ := h2
    rw [e]
    refine ⟨k'.encode (.number s m p), ?_, FI.enc hv hb⟩
    simp only [e2]
    rfl
theorem cut_zero (neg : Bool) (N b : Nat) : Toward.zero.cut neg (N * 2 ^ b) b = N := by
  unfold Toward.cut
  by_cases hN : N = 0
  · subst hN
    simp
  · have hl : (N * 2 ^ b).log2 = N.log2 + b := log2_shift hN _
    have hg : (1 : Nat) <<< min b ((N * 2 ^ b).log2 + 2) = 2 ^ b := by
      rw [hl, Nat.min_eq_left (by omega), Nat.shiftLeft_eq, Nat.one_mul]
    simp only [hg]
    rw [Nat.mul_div_cancel _ (Nat.two_pow_pos b)]
    simp
theorem FI.toInt {k : FloatKind} {x : Nat} {n : Int} (hx : FI k x n) (d : IntKind) (h1 : d.min ≤ n) (h2 : n ≤ d.max) : floatToIntVal k x d = some n := by
  obtain ⟨s, m, p, e, hv⟩ := hx
  obtain ⟨a, b, hab, ha, hb⟩ : ∃ a b : Nat, p = (a : Int) - (b : Int) ∧ a = p.toNat ∧ b = (-p).toNat := ⟨_, _, by omega, rfl, rfl⟩
  have ea := hv.abs a b hab
  have hi : (Datum.number s m p).toInt .zero = some n := by
    show some (signed s (Toward.zero.cut s (m <<< p.toNat) (-p).toNat) 0) = some n
    rw [← ha, ← hb, Nat.shiftLeft_eq, ea, cut_zero]
    by_cases hz : n = 0
    · subst hz
      exact congrArg some (signed_0 _ _)
    · have := signed_abs n s (fun _ => hv.sign hz) 0
      simpa using this
  unfold floatToIntVal
  rw [e, hi]
  simp [h1, h2]
theorem csum_bits {k : FloatKind} {a b c d : Nat} {x y u v : Int} (ha : FI k a x) (hb : FI k b y) (hc : FI k c u) (hd : FI k d v) (h1 : (x + u).natAbs < fmx k) (h2 : (y + v).natAbs < fmx k) :
    ∃ re im, cSumBits .add k a b c d = some (re, im) ∧ FI k re (x + u) ∧ FI k im (y + v) := by
  obtain ⟨re, e1, q1⟩ := ha.add hc h1
  obtain ⟨im, e2, q2⟩ := hb.add hd h2
  refine ⟨re, im, ?_, q1, q2⟩
  unfold cSumBits
  rw [e1, e2]
  rfl
theorem cmul_bits {a b c d : Nat} {x y u v : Int} (ha : FI .f64 a x) (hb : FI .f64 b y) (hc : FI .f64 c u) (hd : FI .f64 d v) (h1 : (x * u).natAbs < fmx .f64) (h2 : (y * v).natAbs < fmx .f64) (h3 : (x * v).natAbs < fmx .f64) (h4 : (y * u).natAbs < fmx .f64) (h5 : (x * u - y * v).natAbs < fmx .f64) (h6 : (x * v + y * u).natAbs < fmx .f64) :
    ∃ re im, cMulBits a b c d = some (re, im) ∧ FI .f64 re (x * u - y * v) ∧ FI .f64 im (x * v + y * u) := by
  obtain ⟨ac, e1, q1⟩ := ha.mul hc h1
  obtain ⟨bd, e2, q2⟩ := hb.mul hd h2
  obtain ⟨re, e3, q3⟩ := q1.sub q2 h5
  obtain ⟨ad, e4, q4⟩ := ha.mul hd h3
  obtain ⟨bc, e5, q5⟩ := hb.mul hc h4
  obtain ⟨im, e6, q6⟩ := q4.add q5 h6
  refine ⟨re, im, ?_, q3, q6⟩
  unfold cMulBits
  rw [e1, e2]
  simp only [Option.bind_some, e3, e4, e5, e6]
theorem cconv_bits {k k' : FloatKind} {a b : Nat} {x y : Int} (ha : FI k a x) (hb : FI k b y) (h1 : x.natAbs < fmx k') (h2 : y.natAbs < fmx k') :
    ∃ re im, cConvBits k a b k' = some (re, im) ∧ FI k' re x ∧ FI k' im y := by
  obtain ⟨re, e1, q1⟩ := ha.conv h1
  obtain ⟨im, e2, q2⟩ := hb.conv h2
  refine ⟨re, im, ?_, q1, q2⟩
  unfold cConvBits
  rw [e1, e2]
  rfl
end Go.Proofs.Ytpkacfgmojblbaa
