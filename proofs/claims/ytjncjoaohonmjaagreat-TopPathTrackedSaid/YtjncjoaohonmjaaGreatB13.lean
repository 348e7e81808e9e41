/- Helpers: the motion with the least travel. -/
import Derived.Test.YtjncjoaohonmjaaGreatB12
namespace Go.Proofs.YtjncjoaohonmjaaGreat
open Go.RowKit Go.Shelf Go.Sort
attribute [local go_sem] idx3_0 idx3_1 idx3_2 old1 fro1 old2 fro2 old3 fro3 old4 fro4 old5 fro5 old6 fro6 old7 fro7 old8 fro8 old9 fro9 old10 fro10 old11 fro11 old12 fro12
set_option maxRecDepth 100000 in
set_option maxHeartbeats 2000000 in
theorem minimumMotion_o (t lo hi st ra : Int) (A : Option Addr) (n c : Nat) (xs : Nat → Int) (w : World) (hn : n ≤ 64) (hA : IA w A n xs) (hx : ∀ i, i < n → 0 ≤ xs i ∧ xs i ≤ 3600)
    (t1 : 1 ≤ t) (t2 : t ≤ 3600) (l1 : -20000 ≤ lo) (l2 : lo ≤ 20000) (h1 : -20000 ≤ hi) (h2 : hi ≤ 20000) (f1 : lo ≤ st) (f2 : st ≤ hi) (r0 : 0 ≤ ra) (r1 : ra ≤ 40000) (kk : Nat → Nat) (a R : Nat → Nat → Int) (hkk : kkF t lo hi st xs = kk) (haa : aF t lo hi st xs = a) (hRR : RE ra n kk a = R)
    (hkb : ∀ i, i < n → kk i ≤ 50000 ∧ ∀ j, j < kk i → lo ≤ a i j ∧ a i j ≤ hi) :
    Calls Tryz.prog 43 #[.agg #[.int .i64 t, .int .i64 lo, .int .i64 hi, .int .i64 st, .int .i64 ra], .slice A n c] w fun e w' => Below w.heap.size w w' ∧
      (((∀ i, i < n → mok ra st kk a R i) ∧ ∃ v, e = .returned (.tuple #[v, .int .i64 (mtrv ra st kk a R n)]) ∧ w'.ownsRow w.heap.size 3 1 v n (posL (mpos ra st kk a R) n)) ∨
       ((∃ i, i < n ∧ ¬ mok ra st kk a R i) ∧ e = .returned (.tuple #[.slice none 0 0, .int .i64 (-1)]))) := by
  have HRB : Hid (∀ i j, -1 ≤ R i j ∧ R i j ≤ 100000000) := fun i j => by rw [← hRR]; exact RE_bd hn r0 r1 i j
  have HS := fun W hW => Lib.hid (stopsOf_o t lo hi st ra A n c xs W hn hW hx t1 t2 l1 l2 h1 h2 f1 f2 r0 r1 kk a hkk haa)
  rw [hRR] at HS
  have HKB := Lib.hid hkb
  clear hkk haa hRR hkb
  obtain ⟨i0, hi0, hz0, hz1, hz2⟩ := info_parts infoInt
  go_enter Tryz.func43, Tryz.ntmps43
  go_wp2_with (go_at_call 90; go_loud (with_reducible refine Calls.mono (HS _ (hA.below (by (repeat (first | with_reducible exact Below.refl _ _ | with_reducible assumption | with_reducible refine Below.alloc ?_ (by first | (simp; done) | (simp; omega) | omega) _ | with_reducible refine Below.setCell ?_ (by first | (simp; done) | (simp; omega) | omega) _ | with_reducible refine Below.drew ?_ | with_reducible refine below_drewN ?_ _))))).out ?_; rintro e w2 ⟨A2, c2, g2, rfl, hrr, hb2⟩; have HR := Lib.hid hrr; have HB := Lib.hid hb2; have hs2 := hb2.size; simp at hs2; have e0 := (hb2.cell (p := ⟨w.heap.size, 0, none⟩) (by simp; omega)).trans (show _ = some (.int .i64 t) by simp [go_sem]); have e1 := (hb2.cell (p := ⟨w.heap.size, 1, none⟩) (by simp; omega)).trans (show _ = some (.int .i64 lo) by simp [go_sem]); have e2 := (hb2.cell (p := ⟨w.heap.size, 2, none⟩) (by simp; omega)).trans (show _ = some (.int .i64 hi) by simp [go_sem]); have e3 := (hb2.cell (p := ⟨w.heap.size, 3, none⟩) (by simp; omega)).trans (show _ = some (.int .i64 st) by simp [go_sem]); have e4 := (hb2.cell (p := ⟨w.heap.size, 4, none⟩) (by simp; omega)).trans (show _ = some (.int .i64 ra) by simp [go_sem]); have a0 := (hb2.cell (p := ⟨w.heap.size + 1, 0, none⟩) (by simp)).trans (show _ = some (.int .i64 st) by simp [go_sem]); have af := (hb2.frozen (p := ⟨w.heap.size + 1, 0, none⟩) (by simp)).trans (show _ = false by simp [go_sem]); have HBW : Below w.heap.size w w2 := (show Below w.heap.size w _ by (repeat (first | with_reducible exact Below.refl _ _ | with_reducible assumption | with_reducible refine Below.alloc ?_ (by first | (simp; done) | (simp; omega) | omega) _ | with_reducible refine Below.setCell ?_ (by first | (simp; done) | (simp; omega) | omega) _ | with_reducible refine Below.drew ?_ | with_reducible refine below_drewN ?_ _))).trans (hb2.mono (by simp; omega)); clear hrr hb2))
  have HRR : Hid (RB w2 (w.heap.size + 1 + 1 + 1) n w2.heap.size A2 c2 kk g2 a R) := RB.of_rr (by simpa using HR.out)
  clear HR
  generalize hB : w2.heap.size = B at *
  have hBs := Nat.le_of_eq hB.symm
  generalize hS : w.heap.size + 1 + 1 + 1 = S at *
  go_loopw [6, 8, 19] (fun s6 s8 s19 wr => ∃ k : Nat, k ≤ n ∧ s19 = .int .i64 k ∧ s8 = .int .i64 (mtrv ra st kk a R k) ∧ Below w.heap.size w wr ∧ B ≤ wr.heap.size ∧
     (wr.cell? ⟨w.heap.size, 0, none⟩ = some (.int .i64 t) ∧ wr.cell? ⟨w.heap.size, 1, none⟩ = some (.int .i64 lo) ∧ wr.cell? ⟨w.heap.size, 2, none⟩ = some (.int .i64 hi) ∧ wr.cell? ⟨w.heap.size, 3, none⟩ = some (.int .i64 st) ∧ wr.cell? ⟨w.heap.size, 4, none⟩ = some (.int .i64 ra)) ∧
     wr.cell? ⟨w.heap.size + 1, 0, none⟩ = some (.int .i64 (mpos ra st kk a R k)) ∧ wr.frozen? ⟨w.heap.size + 1, 0, none⟩ = false ∧
     Hid (wr.ownsRow B 3 1 s6 k (posL (mpos ra st kk a R) k)) ∧ Hid (∀ i, i < k → mok ra st kk a R i) ∧ Hid (RB wr S n B A2 c2 kk g2 a R)) (fun _ _ i _ => n - (intOf i).toNat)
  case atStart => exact ⟨0, Nat.zero_le _, rfl, rfl, HBW, hBs, ⟨e0, e1, e2, e3, e4⟩, a0, af, World.ownsRow_nil _ _ _ _, fun i hi => absurd hi (Nat.not_lt_zero _), HRR.out⟩
  case round =>
    clear HBW e0 e1 e2 e3 e4 a0 af HRR HB
    obtain ⟨k, hk, rfl, rfl, hbel, hws, ⟨e0, e1, e2, e3, e4⟩, a0, af, HOW, HOK, HRR⟩ := hrel
    by_cases hlt : k < n
    · have q0 : wr.cell? ⟨S, k, none⟩ = some (.slice (A2 k) (kk k) (c2 k)) := HRR.out.1.1 k hlt
      have hkk := (HKB.out k hlt).1
      have HPI := Lib.hid (mpos_in (R := R) (ra := ra) f1 f2 (fun i hi => (HKB.out i hi).2) k hk HOK.out)
      have HTI := Lib.hid (mtrv_in (R := R) (ra := ra) l1 h2 f1 f2 (fun i hi => (HKB.out i hi).2) k hk HOK.out)
      have HBD : Hid (∀ i, i < kk k → (-100000 ≤ a k i - mpos ra st kk a R k ∧ a k i - mpos ra st kk a R k ≤ 100000) ∧ (-1 ≤ R k i ∧ R k i ≤ 100000000)) := fun i hi => ⟨by have := (HKB.out k hlt).2 i hi; have := HPI.out; omega, HRB.out k i⟩
      have HM : Hid (∀ W, Below wr.heap.size wr W → Calls Tryz.prog 91 #[.agg #[.int .i64 t, .int .i64 lo, .int .i64 hi, .int .i64 st, .int .i64 ra], .int .i64 (mpos ra st kk a R k), .slice (A2 k) (kk k) (c2 k)] W fun e w' => e = .returned (.int .i64 (mr ra (mpos ra st kk a R k) (a k) (R k) (kk k))) ∧ Below wr.heap.size wr w') := by
        intro W hW
        refine (minimumRest_any t lo hi st ra (mpos ra st kk a R k) (A2 k) (g2 k) (kk k) (c2 k) (a k) (R k) W (by omega) ?_ HBD.out).mono (fun _ _ h => ⟨h.1, hW.trans (h.2.mono hW.size)⟩)
        exact (HRR.out.1.below hW).row hlt
      have p1 : (0 : Int) ≤ (k : Int) := by omega
      have p2 : (k : Int) < (n : Int) := by omega
      generalize hX : mr ra (mpos ra st kk a R k) (a k) (R k) (kk k) = X at HM
      have hb0 := hbel.size
      by_cases hx1 : X = -1
      · have g1 : (X == -1) = true := by simp [hx1]
        have HN : Hid (¬ mok ra st kk a R k) := fun h => h (hX.trans hx1)
        clear hX hx1
        go_wp2_with (go_at_call 91; (with_reducible refine Calls.mono (HM.out _ (by (repeat (first | with_reducible exact Below.refl _ _ | with_reducible assumption | with_reducible refine Below.alloc ?_ (by first | (simp; done) | (simp; omega) | omega) _ | with_reducible refine Below.setCell ?_ (by first | (simp; done) | (simp; omega) | omega) _ | with_reducible refine Below.drew ?_ | with_reducible refine below_drewN ?_ _)))) ?_); rintro e w3 ⟨rfl, hb3⟩; obtain ⟨hc3, hf3⟩ := bcell hb3; have HB3 := Lib.hid hb3; clear hb3)
        go_ret2
        have hb3 := hbel.trans (HB3.out.mono hb0)
        have hz3 := hb3.size
        exact ⟨by (repeat (first | with_reducible exact Below.refl _ _ | with_reducible assumption | with_reducible refine Below.alloc ?_ (by first | (simp; done) | (simp; omega) | omega) _ | with_reducible refine Below.setCell ?_ (by first | (simp; done) | (simp; omega) | omega) _ | with_reducible refine Below.drew ?_ | with_reducible refine below_drewN ?_ _)), .inr ⟨⟨k, hlt, HN.out⟩, rfl⟩⟩
      · have g1 : (X == -1) = false := by simp [hx1]
        obtain ⟨hj, hfi, htv⟩ := nxt_spec (fun h => hx1 (hX.symm.trans h))
        rw [hX] at hfi
        have hnext : mpos ra st kk a R (k + 1) = a k (nxt ra (mpos ra st kk a R k) (a k) (R k) (kk k)) := rfl
        have hok : mok ra st kk a R k := fun h => hx1 (hX.symm.trans h)
        have HPN := Lib.hid hnext
        have HON := Lib.hid hok
        obtain ⟨hA0, hrow⟩ := HRR.out.1.row hlt (by omega)
        obtain ⟨q1, q2⟩ := hrow _ hj
        have hgw : g2 k < wr.heap.size := lt_of q1
        simp only [Nat.zero_add] at q1
        rw [hA0] at q0 HM
        clear htv hnext hok hA0 hX hx1 q2
        obtain ⟨b1, b2⟩ := (HKB.out k hlt).2 _ hj
        obtain ⟨b3, b4⟩ := HPI.out
        generalize nxt ra (mpos ra st kk a R k) (a k) (R k) (kk k) = jx at *
        generalize hP : mpos ra st kk a R k = P at *
        generalize hTT : mtrv ra st kk a R k = T at *
        have HPK := Lib.hid hP
        have HTK := Lib.hid hTT
        clear hP hTT
        have hT := HTI.out
        have sn := siz_nn (a k jx - P)
        have sb := siz_le (x := a k jx - P) (b := 40000) (by omega) (by omega)
        have u1 : IntKind.i64.wrap (a k jx - P) = a k jx - P := IntWalk.i64_in _ (by omega)
        have u2 : IntKind.i64.wrap (T + siz (a k jx - P)) = T + siz (a k jx - P) := IntWalk.i64_in _ (by omega)
        have p6 : (0 : Int) ≤ (jx : Int) := by omega
        have p7 : (jx : Int) < (kk k : Int) := by omega
        have HRW := Lib.hid hrow
        have HFI := Lib.hid hfi
        clear hfi hrow
        go_wp2_with (first
          | (go_at_call 91; (with_reducible refine Calls.mono (HM.out _ (by (repeat (first | with_reducible exact Below.refl _ _ | with_reducible assumption | with_reducible refine Below.alloc ?_ (by first | (simp; done) | (simp; omega) | omega) _ | with_reducible refine Below.setCell ?_ (by first | (simp; done) | (simp; omega) | omega) _ | with_reducible refine Below.drew ?_ | with_reducible refine below_drewN ?_ _)))) ?_); rintro e w3 ⟨rfl, hb3⟩; obtain ⟨hc3, hf3⟩ := bcell hb3; have HB3 := Lib.hid hb3; clear hb3)
          | (go_at_call 92; go_loud (have hbW := (HB3.out).alloc (HB3.out.size) (Obj.cells #[.int .i64 X] 3); refine (pick_any _ _ _ t lo hi st ra P X (g2 k) (kk k) (c2 k) jx (a k) (R k) _ (keep hbW e0) (keep hbW e1) (keep hbW e2) (keep hbW e3) (keep hbW e4) (keep hbW a0) (by simp [go_sem]) (by omega) (by omega) (fun i hi => ⟨keep hbW (HRW.out i hi).1, keep hbW (HRW.out i hi).2⟩) HBD.out HFI.out).mono ?_; rintro e w4 ⟨rfl, hb4⟩; have HB4 : Hid (Below wr.heap.size wr w4) := hbW.trans (hb4.mono hbW.size); have hz4 := HB4.out.size; obtain ⟨hc4, hf4⟩ := bcell HB4.out; clear hbW hb4)))
        have c4 := keep HB4.out q1
        have c5 := keep HB4.out a0
        have f5 := (hf4 (w.heap.size + 1) 0 (by omega)).trans af
        have hx4 : w.heap.size + 1 < w4.heap.size := by omega
        go_region_held3 (fun w' => w'.cell? ⟨g2 k, jx * 2, none⟩ = some (.int .i64 (a k jx)) ∧ w'.cell? ⟨w.heap.size + 1, 0, none⟩ = some (.int .i64 P)) (simp [go_sem, *])
          (first | (go_at_call 51; ((with_reducible refine (size_any (a k jx - P) (by omega) (by omega) _).mono ?_); rintro e w1 ⟨rfl, rfl⟩)))
        have HO4 : Hid ((w4.setCell ⟨w.heap.size + 1, 0, none⟩ (.int .i64 (a k jx))).ownsRow B 3 1 u6 k (posL (mpos ra st kk a R) k)) := own_set (own_below HOW.out HB4.out) (by omega) _
        have HBS : Hid (B ≤ w4.heap.size) := (by omega : B ≤ w4.heap.size)
        go_wp2_with (first
          | (at_builtin; go_loud (refine wpList_append_own_at _ rfl _ _ 36 rfl B 3 i0 _ 1 8 undInts hi0 hz0 hz1 hz2 rfl (by decide) u6 _ _ rfl (HO4.out.alloc _) ⟨w4.heap.size, 0, none⟩ 1 1 [.int .i64 (a k jx)] rfl rfl (by simpa using news1 (w4.setCell ⟨w.heap.size + 1, 0, none⟩ (.int .i64 (a k jx))) _ _) (by simp [Value.oneCell']) (by unfold maxLen; omega) (by omega) (by simp; omega) ?_; intro v' w5 hown' hgrow hnil hloc; have HO5 := Lib.hid hown'; have HG5 := Lib.hid hgrow; clear hown' hgrow hnil hloc))
          | fail)
        go_roundw
        case rel =>
          have hB5 : Below B (w4.setCell ⟨w.heap.size + 1, 0, none⟩ (.int .i64 (a k jx))) w5 := (((Below.refl B _).alloc (by simpa using HBS.out) _).drew).grown HG5.out (by simp; exact Nat.le_succ_of_le HBS.out) (fun k h => (HO4.out.lt k h).1)
          obtain ⟨hc5, hf5⟩ := bcell hB5
          have hp : mpos ra st kk a R (k + 1) = a k jx := HPN.out
          have ht : mtrv ra st kk a R (k + 1) = T + siz (a k jx - P) := by
            show mtrv ra st kk a R k + siz (mpos ra st kk a R (k + 1) - mpos ra st kk a R k) = _
            rw [hp, HPK.out, HTK.out]
          have hB0 : w.heap.size + 1 < B := by omega
          have hcell : ∀ b o v, b < B → b ≠ w.heap.size + 1 → wr.cell? ⟨b, o, none⟩ = some v → w5.cell? ⟨b, o, none⟩ = some v := fun b o v h1 h2 h => (hc5 b o h1).trans (cell_ne (keep HB4.out h) (fun e _ => h2 e.symm))
          refine ⟨k + 1, by omega, by go_num, by rw [ht], ((hbel.trans (HB4.out.mono hb0)).setCell (show w.heap.size ≤ w.heap.size + 1 by omega) _).trans (hB5.mono (by omega)), by have := hB5.size; simp at this; omega, ⟨hcell _ _ _ (by omega) (by omega) e0, hcell _ _ _ (by omega) (by omega) e1, hcell _ _ _ (by omega) (by omega) e2, hcell _ _ _ (by omega) (by omega) e3, hcell _ _ _ (by omega) (by omega) e4⟩, ?_, ?_, ?_, ?_, ?_⟩
          · rw [hp]
            exact (hc5 _ _ hB0).trans (World.cell?_setCell_same w4 _ _ c5)
          · rw [hf5 _ _ hB0, World.frozen?_setCell]
            exact f5
          · show w5.ownsRow B 3 1 v' (k + 1) (posL (mpos ra st kk a R) (k + 1))
            rw [posL_s, hp]
            exact HO5.out
          · exact fun i hi => (by rcases Nat.lt_succ_iff_lt_or_eq.1 hi with h | h; exact HOK.out i h; rw [h]; exact HON.out)
          · refine HRR.out.of (fun b o h1 h2 => ?_) (fun b o h1 h2 => ?_)
            · rw [hc5 b o h2, World.cell?_setCell_other w4 ⟨w.heap.size + 1, 0, none⟩ ⟨b, o, none⟩ _ (by intro e; have := congrArg Addr.block e; simp at this; omega)]
              exact hc4 b o (by omega)
            · rw [hf5 b o h2, World.frozen?_setCell]
              exact hf4 b o (by omega)
        case measure => simp [intOf]; omega
    · obtain rfl : k = n := by omega
      go_wp2_with fail
      go_ret2
      exact ⟨hbel, .inl ⟨HOK.out, _, rfl, own_base HOW.out (by omega)⟩⟩
end Go.Proofs.YtjncjoaohonmjaaGreat
namespace Go.Proofs.YtjncjoaohonmjaaGreat
open Go.RowKit Go.Shelf Go.Sort
attribute [local go_sem] idx3_0 idx3_1 idx3_2 old1 fro1 old2 fro2 old3 fro3 old4 fro4 old5 fro5 old6 fro6 old7 fro7 old8 fro8 old9 fro9 old10 fro10 old11 fro11 old12 fro12
/-- The position before step i, the travel up to it, and whether a motion can go on there, of the motion with the least travel. -/
def pkk (t lo hi st : Int) (xs : Nat → Int) : Nat → Nat := kkF t lo hi st xs
def pR (t lo hi st ra : Int) (n : Nat) (xs : Nat → Int) : Nat → Nat → Int := RE ra n (kkF t lo hi st xs) (aF t lo hi st xs)
def pPos (t lo hi st ra : Int) (n : Nat) (xs : Nat → Int) : Nat → Int := mpos ra st (kkF t lo hi st xs) (aF t lo hi st xs) (pR t lo hi st ra n xs)
def pTrv (t lo hi st ra : Int) (n : Nat) (xs : Nat → Int) : Nat → Int := mtrv ra st (kkF t lo hi st xs) (aF t lo hi st xs) (pR t lo hi st ra n xs)
def pOk (t lo hi st ra : Int) (n : Nat) (xs : Nat → Int) : Nat → Prop := mok ra st (kkF t lo hi st xs) (aF t lo hi st xs) (pR t lo hi st ra n xs)
def SomePt (t lo hi st ra : Int) (n : Nat) (xs : Nat → Int) (w : World) (e : Ending) (w' : World) : Prop :=
  Below w.heap.size w w' ∧ (ptErr t lo hi st ra n xs ≠ 0 → e = .returned (.tuple #[.slice none 0 0, .int .i64 0, .int .i64 (ptErr t lo hi st ra n xs)])) ∧
  (ptErr t lo hi st ra n xs = 0 → ((∀ i, i < n → pOk t lo hi st ra n xs i) ∧ 0 ≤ pTrv t lo hi st ra n xs n ∧ ∃ v, e = .returned (.tuple #[v, .int .i64 (pTrv t lo hi st ra n xs n), .int .i64 0]) ∧ w'.ownsRow w.heap.size 3 1 v n (posL (pPos t lo hi st ra n xs) n)) ∨
    ((∃ i, i < n ∧ ¬ pOk t lo hi st ra n xs i) ∧ e = .returned (.tuple #[.slice none 0 0, .int .i64 0, .int .i64 12])))
theorem pt_ok {t lo hi st ra : Int} {n : Nat} {xs : Nat → Int} (h : ptErr t lo hi st ra n xs = 0) : driveErr t lo hi st ra = 0 ∧ n ≤ 40 ∧ ∀ i, i < n → 0 ≤ xs i ∧ xs i ≤ t - 1 := by
  unfold ptErr at h
  by_cases hd : driveErr t lo hi st ra = 0
  · rw [if_pos hd] at h
    unfold tgErr at h
    by_cases hn : (n : Int) ≤ 40
    · rw [if_pos (by simpa using hn)] at h
      refine ⟨hd, by omega, fun i hi => ?_⟩
      cases hb : (List.range n).any fun i => !wi (xs i) 0 (t - 1)
      · have := List.any_eq_false.1 hb i (List.mem_range.2 hi)
        simp at this
        exact wi_t.1 this
      · rw [hb] at h; simp at h
    · rw [if_neg (by simpa using hn)] at h
      omega
  · rw [if_neg hd] at h
    exact absurd h hd
theorem row_in_all {t lo hi st : Int} {xs : Nat → Int} (t1 : 1 ≤ t) (_ : t ≤ 3600) (l1 : -20000 ≤ lo) (h2 : hi ≤ 20000) (f1 : lo ≤ st) (f2 : st ≤ hi) (i : Nat) : RowIn t lo hi (rowBefore t lo hi st xs i) := by
  induction i with
  | zero => exact ⟨by show 1 ≤ 50000; omega, fun _ => ⟨f1, by show st + t * ((1 - 1 : Nat) : Int) ≤ hi; simp; exact f2⟩⟩
  | succ i ih =>
    refine nextRow_in t1 ih ?_
    show (nextRow t lo hi (xs i) (rowBefore t lo hi st xs i)).2 ≤ 50000
    unfold nextRow
    split
    · simp
    · simp only
      unfold cnt
      split
      · omega
      · rename_i hF
        have hM : max lo ((rowBefore t lo hi st xs i).1 - t) ≤ firstAt t (max lo ((rowBefore t lo hi st xs i).1 - t)) (xs i) := by
          obtain ⟨n1, _⟩ := next_on t (max lo ((rowBefore t lo hi st xs i).1 - t) - xs i) t1
          unfold firstAt; omega
        generalize firstAt t (max lo ((rowBefore t lo hi st xs i).1 - t)) (xs i) = F at *
        have hH : min hi ((rowBefore t lo hi st xs i).1 + t * (((rowBefore t lo hi st xs i).2 - 1 : Nat) : Int) + t) ≤ hi := by omega
        generalize min hi ((rowBefore t lo hi st xs i).1 + t * (((rowBefore t lo hi st xs i).2 - 1 : Nat) : Int) + t) = H at *
        have : (H - F) / t ≤ H - F := by
          have := Int.ediv_le_self (a := H - F) t (by omega)
          exact this
        omega
theorem rows_in {t lo hi st : Int} {xs : Nat → Int} (t1 : 1 ≤ t) (t2 : t ≤ 3600) (l1 : -20000 ≤ lo) (h2 : hi ≤ 20000) (f1 : lo ≤ st) (f2 : st ≤ hi) (i : Nat) : kkF t lo hi st xs i ≤ 50000 ∧ ∀ j, j < kkF t lo hi st xs i → lo ≤ aF t lo hi st xs i j ∧ aF t lo hi st xs i j ≤ hi :=
  ⟨(row_in_all t1 t2 l1 h2 f1 f2 (i + 1)).1, fun j hj => RowIn.bd t1 (row_in_all t1 t2 l1 h2 f1 f2 (i + 1)) j hj⟩
set_option maxRecDepth 100000 in
set_option maxHeartbeats 2000000 in
theorem pointing_any (t lo hi st ra : Int) (A : Option Addr) (n c : Nat) (xs : Nat → Int) (w : World) (hn : n ≤ 9223372036854775807) (hA : IA w A n xs) :
    Calls Tryz.prog 16 #[.agg #[.int .i64 t, .int .i64 lo, .int .i64 hi, .int .i64 st, .int .i64 ra], .slice A n c] w (SomePt t lo hi st ra n xs w) := by
  have HC := fun W hW => Lib.hid (checkTargets_any t lo hi st ra A n c xs W hn hW)
  by_cases h0 : ptErr t lo hi st ra n xs = 0
  · obtain ⟨hd, hn40, hx⟩ := pt_ok h0
    obtain ⟨⟨t1, t2⟩, ⟨l1, l2⟩, ⟨h1, h2⟩, ⟨r0, r1⟩, f1, f2⟩ := drive_ok hd
    have HM := fun W hW => Lib.hid (minimumMotion_o t lo hi st ra A n c xs W (by omega) hW (fun i hi => ⟨(hx i hi).1, by have := (hx i hi).2; omega⟩) t1 t2 l1 l2 h1 h2 f1 f2 r0 r1 _ _ _ rfl rfl rfl (fun i _ => rows_in t1 t2 l1 h2 f1 f2 i))
    have HT := fun ho => Lib.hid (mtrv_in (ra := ra) (R := pR t lo hi st ra n xs) l1 h2 f1 f2 (fun i (_ : i < n) => (rows_in (xs := xs) t1 t2 l1 h2 f1 f2 i).2) n (Nat.le_refl n) ho)
    rw [h0] at HC
    by_cases ho : ∀ i, i < n → pOk t lo hi st ra n xs i
    · have hT := (HT ho).out
      have HM' : ∀ W, IA W A n xs → Hid (Calls Tryz.prog 43 #[.agg #[.int .i64 t, .int .i64 lo, .int .i64 hi, .int .i64 st, .int .i64 ra], .slice A n c] W fun e w' => ∃ v, e = .returned (.tuple #[v, .int .i64 (pTrv t lo hi st ra n xs n)]) ∧ w'.ownsRow W.heap.size 3 1 v n (posL (pPos t lo hi st ra n xs) n) ∧ Below W.heap.size W w') := fun W hW => (HM W hW).out.mono (by
        rintro e w' ⟨hb, ⟨_, v, rfl, hv⟩ | ⟨⟨i, hi, hni⟩, _⟩⟩
        · exact ⟨v, rfl, hv, hb⟩
        · exact absurd (ho i hi) hni)
      have hT0 : 0 ≤ pTrv t lo hi st ra n xs n := hT.1
      have g1 : (pTrv t lo hi st ra n xs n == -1) = false := by simp; omega
      have HO := Lib.hid ho
      clear HM HT hT ho
      go_enter Tryz.func16, Tryz.ntmps16
      go_wp2_with (first
        | (go_at_call 42; (with_reducible refine Calls.mono (HC _ (hA.below (by (repeat (first | with_reducible exact Below.refl _ _ | with_reducible assumption | with_reducible refine Below.alloc ?_ (by first | (simp; done) | (simp; omega) | omega) _ | with_reducible refine Below.setCell ?_ (by first | (simp; done) | (simp; omega) | omega) _ | with_reducible refine Below.drew ?_ | with_reducible refine below_drewN ?_ _))))).out ?_); rintro e w1 ⟨rfl, hb1⟩; have e0 := (hb1.cell (p := ⟨w.heap.size, 0, none⟩) (by simp)).trans (show _ = some (.int .i64 t) by simp [go_sem]); have e1 := (hb1.cell (p := ⟨w.heap.size, 1, none⟩) (by simp)).trans (show _ = some (.int .i64 lo) by simp [go_sem]); have e2 := (hb1.cell (p := ⟨w.heap.size, 2, none⟩) (by simp)).trans (show _ = some (.int .i64 hi) by simp [go_sem]); have e3 := (hb1.cell (p := ⟨w.heap.size, 3, none⟩) (by simp)).trans (show _ = some (.int .i64 st) by simp [go_sem]); have e4 := (hb1.cell (p := ⟨w.heap.size, 4, none⟩) (by simp)).trans (show _ = some (.int .i64 ra) by simp [go_sem]); have HB1 : Hid (Below w.heap.size w w1) := (show Below w.heap.size w _ by (repeat (first | with_reducible exact Below.refl _ _ | with_reducible assumption | with_reducible refine Below.alloc ?_ (by first | (simp; done) | (simp; omega) | omega) _ | with_reducible refine Below.setCell ?_ (by first | (simp; done) | (simp; omega) | omega) _ | with_reducible refine Below.drew ?_ | with_reducible refine below_drewN ?_ _))).trans (hb1.mono (by simp)); have hz1 := HB1.out.size; clear hb1)
        | (go_at_call 43; (with_reducible refine Calls.mono (HM' _ (hA.below (by have hb1 := HB1.out; (repeat (first | with_reducible exact Below.refl _ _ | with_reducible assumption | with_reducible refine Below.alloc ?_ (by first | (simp; done) | (simp; omega) | omega) _ | with_reducible refine Below.setCell ?_ (by first | (simp; done) | (simp; omega) | omega) _ | with_reducible refine Below.drew ?_ | with_reducible refine below_drewN ?_ _))))).out ?_); rintro e w2 ⟨v, rfl, hv, hb2⟩; have HV := Lib.hid hv; have HB2 := Lib.hid hb2; clear hb2 hv)
        | fail)
      refine bodyPost_ret (v := .tuple #[v, .int .i64 (pTrv t lo hi st ra n xs n), .int .i64 0]) (by simp [results, Tryz.results16, go_sem]) rfl ?_
      exact ⟨HB1.out.trans (HB2.out.mono hz1), fun h => absurd h0 h, fun _ => .inl ⟨HO.out, hT0, v, rfl, own_base HV.out hz1⟩⟩
    · have hex : ∃ i, i < n ∧ ¬ pOk t lo hi st ra n xs i := by
        simpa using ho
      have HM' : ∀ W, IA W A n xs → Hid (Calls Tryz.prog 43 #[.agg #[.int .i64 t, .int .i64 lo, .int .i64 hi, .int .i64 st, .int .i64 ra], .slice A n c] W fun e w' => e = .returned (.tuple #[.slice none 0 0, .int .i64 (-1)]) ∧ Below W.heap.size W w') := fun W hW => (HM W hW).out.mono (by
        rintro e w' ⟨hb, ⟨ho2, _⟩ | ⟨_, rfl⟩⟩
        · exact absurd ho2 ho
        · exact ⟨rfl, hb⟩)
      have HO := Lib.hid hex
      clear HM HT hex ho
      go_enter Tryz.func16, Tryz.ntmps16
      go_wp2_with (first
        | (go_at_call 42; (with_reducible refine Calls.mono (HC _ (hA.below (by (repeat (first | with_reducible exact Below.refl _ _ | with_reducible assumption | with_reducible refine Below.alloc ?_ (by first | (simp; done) | (simp; omega) | omega) _ | with_reducible refine Below.setCell ?_ (by first | (simp; done) | (simp; omega) | omega) _ | with_reducible refine Below.drew ?_ | with_reducible refine below_drewN ?_ _))))).out ?_); rintro e w1 ⟨rfl, hb1⟩; have e0 := (hb1.cell (p := ⟨w.heap.size, 0, none⟩) (by simp)).trans (show _ = some (.int .i64 t) by simp [go_sem]); have e1 := (hb1.cell (p := ⟨w.heap.size, 1, none⟩) (by simp)).trans (show _ = some (.int .i64 lo) by simp [go_sem]); have e2 := (hb1.cell (p := ⟨w.heap.size, 2, none⟩) (by simp)).trans (show _ = some (.int .i64 hi) by simp [go_sem]); have e3 := (hb1.cell (p := ⟨w.heap.size, 3, none⟩) (by simp)).trans (show _ = some (.int .i64 st) by simp [go_sem]); have e4 := (hb1.cell (p := ⟨w.heap.size, 4, none⟩) (by simp)).trans (show _ = some (.int .i64 ra) by simp [go_sem]); have HB1 : Hid (Below w.heap.size w w1) := (show Below w.heap.size w _ by (repeat (first | with_reducible exact Below.refl _ _ | with_reducible assumption | with_reducible refine Below.alloc ?_ (by first | (simp; done) | (simp; omega) | omega) _ | with_reducible refine Below.setCell ?_ (by first | (simp; done) | (simp; omega) | omega) _ | with_reducible refine Below.drew ?_ | with_reducible refine below_drewN ?_ _))).trans (hb1.mono (by simp)); have hz1 := HB1.out.size; clear hb1)
        | (go_at_call 43; (with_reducible refine Calls.mono (HM' _ (hA.below (by have hb1 := HB1.out; (repeat (first | with_reducible exact Below.refl _ _ | with_reducible assumption | with_reducible refine Below.alloc ?_ (by first | (simp; done) | (simp; omega) | omega) _ | with_reducible refine Below.setCell ?_ (by first | (simp; done) | (simp; omega) | omega) _ | with_reducible refine Below.drew ?_ | with_reducible refine below_drewN ?_ _))))).out ?_); rintro e w2 ⟨rfl, hb2⟩; have HB2 := Lib.hid hb2; clear hb2)
        | fail)
      refine bodyPost_ret (v := .tuple #[.slice none 0 0, .int .i64 0, .int .i64 12]) (by simp [results, Tryz.results16, go_sem]) rfl ?_
      exact ⟨HB1.out.trans (HB2.out.mono hz1), fun h => absurd h0 h, fun _ => .inr ⟨HO.out, rfl⟩⟩
  · have g0 : (ptErr t lo hi st ra n xs == 0) = false := by simp [h0]
    generalize hp : ptErr t lo hi st ra n xs = P at HC g0
    go_enter Tryz.func16, Tryz.ntmps16
    go_wp2_with (first
      | (go_at_call 42; (with_reducible refine Calls.mono (HC _ (hA.below (by (repeat (first | with_reducible exact Below.refl _ _ | with_reducible assumption | with_reducible refine Below.alloc ?_ (by first | (simp; done) | (simp; omega) | omega) _ | with_reducible refine Below.setCell ?_ (by first | (simp; done) | (simp; omega) | omega) _ | with_reducible refine Below.drew ?_ | with_reducible refine below_drewN ?_ _))))).out ?_); rintro e w1 ⟨rfl, hb1⟩; have e0 := (hb1.cell (p := ⟨w.heap.size, 0, none⟩) (by simp)).trans (show _ = some (.int .i64 t) by simp [go_sem]); have e1 := (hb1.cell (p := ⟨w.heap.size, 1, none⟩) (by simp)).trans (show _ = some (.int .i64 lo) by simp [go_sem]); have e2 := (hb1.cell (p := ⟨w.heap.size, 2, none⟩) (by simp)).trans (show _ = some (.int .i64 hi) by simp [go_sem]); have e3 := (hb1.cell (p := ⟨w.heap.size, 3, none⟩) (by simp)).trans (show _ = some (.int .i64 st) by simp [go_sem]); have e4 := (hb1.cell (p := ⟨w.heap.size, 4, none⟩) (by simp)).trans (show _ = some (.int .i64 ra) by simp [go_sem]); have HB1 : Hid (Below w.heap.size w w1) := (show Below w.heap.size w _ by (repeat (first | with_reducible exact Below.refl _ _ | with_reducible assumption | with_reducible refine Below.alloc ?_ (by first | (simp; done) | (simp; omega) | omega) _ | with_reducible refine Below.setCell ?_ (by first | (simp; done) | (simp; omega) | omega) _ | with_reducible refine Below.drew ?_ | with_reducible refine below_drewN ?_ _))).trans (hb1.mono (by simp)); have hz1 := HB1.out.size; clear hb1)
      | fail)
    refine bodyPost_ret (v := .tuple #[.slice none 0 0, .int .i64 0, .int .i64 P]) (by simp [results, Tryz.results16, go_sem]) rfl ?_
    exact ⟨HB1.out, fun _ => by rw [hp], fun h => absurd h h0⟩
end Go.Proofs.YtjncjoaohonmjaaGreat
