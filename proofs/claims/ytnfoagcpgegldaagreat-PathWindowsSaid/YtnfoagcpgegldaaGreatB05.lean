/- Helpers: the motion with the least travel. -/
import Derived.Test.YtnfoagcpgegldaaGreatB04
import Derived.Test.YtnfoagcpgegldaaGreatB02
namespace Go.Proofs.YtnfoagcpgegldaaGreat
open Go.RowKit Go.Shelf Go.Sort
attribute [local go_sem] idx3_0 idx3_1 idx3_2 old1 fro1 old2 fro2 old3 fro3 old4 fro4 old5 fro5 old6 fro6 old7 fro7 old8 fro8 old9 fro9 old10 fro10 old11 fro11 old12 fro12
set_option maxRecDepth 100000 in
set_option maxHeartbeats 2000000 in
theorem minimumMotion_o (t lo hi st ra : Int) (A : Option Addr) (n c : Nat) (xs : Nat → Int) (w : World) (hn : n ≤ 64) (hA : IA w A n xs) (hx : ∀ i, i < n → 0 ≤ xs i ∧ xs i ≤ 3600)
    (t1 : 1 ≤ t) (t2 : t ≤ 3600) (l1 : -20000 ≤ lo) (l2 : lo ≤ 20000) (h1 : -20000 ≤ hi) (h2 : hi ≤ 20000) (f1 : lo ≤ st) (f2 : st ≤ hi) (r0 : 0 ≤ ra) (r1 : ra ≤ 40000) (kk : Nat → Nat) (a R : Nat → Nat → Int) (hkk : kkF t lo hi st xs = kk) (haa : aF t lo hi st xs = a) (hRR : RE ra n kk a = R)
    (hkb : ∀ i, i < n → kk i ≤ 50000 ∧ ∀ j, j < kk i → lo ≤ a i j ∧ a i j ≤ hi) :
    Calls Tryz.prog 89 #[.agg #[.int .i64 t, .int .i64 lo, .int .i64 hi, .int .i64 st, .int .i64 ra], .slice A n c] w fun e w' => Below w.heap.size w w' ∧
      (((∀ i, i < n → mok ra st kk a R i) ∧ ∃ v, e = .returned (.tuple #[v, .int .i64 (mtrv ra st kk a R n)]) ∧ w'.ownsRow w.heap.size 3 1 v n (posL (mpos ra st kk a R) n)) ∨
       ((∃ i, i < n ∧ ¬ mok ra st kk a R i) ∧ e = .returned (.tuple #[.slice none 0 0, .int .i64 (-1)]))) := by
  have HRB : Hid (∀ i j, -1 ≤ R i j ∧ R i j ≤ 100000000) := fun i j => by rw [← hRR]; exact RE_bd hn r0 r1 i j
  have HS := fun W hW => Lib.hid (stopsOf_o t lo hi st ra A n c xs W hn hW hx t1 t2 l1 l2 h1 h2 f1 f2 r0 r1 kk a hkk haa)
  rw [hRR] at HS
  have HKB := Lib.hid hkb
  clear hkk haa hRR hkb
  obtain ⟨i0, hi0, hz0, hz1, hz2⟩ := info_parts infoInt
  go_enter Tryz.func89, Tryz.ntmps89
  go_wp2_with (go_at_call 127; go_loud (with_reducible refine Calls.mono (HS _ (hA.below (by (repeat (first | with_reducible exact Below.refl _ _ | with_reducible assumption | with_reducible refine Below.alloc ?_ (by first | (simp; done) | (simp; omega) | omega) _ | with_reducible refine Below.setCell ?_ (by first | (simp; done) | (simp; omega) | omega) _ | with_reducible refine Below.drew ?_ | with_reducible refine below_drewN ?_ _))))).out ?_; rintro e w2 ⟨A2, c2, g2, rfl, hrr, hb2⟩; have HR := Lib.hid hrr; have HB := Lib.hid hb2; have hs2 := hb2.size; simp at hs2; have e0 := (hb2.cell (p := ⟨w.heap.size, 0, none⟩) (by simp; omega)).trans (show _ = some (.int .i64 t) by simp [go_sem]); have e1 := (hb2.cell (p := ⟨w.heap.size, 1, none⟩) (by simp; omega)).trans (show _ = some (.int .i64 lo) by simp [go_sem]); have e2 := (hb2.cell (p := ⟨w.heap.size, 2, none⟩) (by simp; omega)).trans (show _ = some (.int .i64 hi) by simp [go_sem]); have e3 := (hb2.cell (p := ⟨w.heap.size, 3, none⟩) (by simp; omega)).trans (show _ = some (.int .i64 st) by simp [go_sem]); have e4 := (hb2.cell (p := ⟨w.heap.size, 4, none⟩) (by simp; omega)).trans (show _ = some (.int .i64 ra) by simp [go_sem]); have a0 := (hb2.cell (p := ⟨w.heap.size + 1, 0, none⟩) (by simp)).trans (show _ = some (.int .i64 st) by simp [go_sem]); have af := (hb2.frozen (p := ⟨w.heap.size + 1, 0, none⟩) (by simp)).trans (show _ = false by simp [go_sem]); have HBW : Below w.heap.size w w2 := (show Below w.heap.size w _ by (repeat (first | with_reducible exact Below.refl _ _ | with_reducible assumption | with_reducible refine Below.alloc ?_ (by first | (simp; done) | (simp; omega) | omega) _ | with_reducible refine Below.setCell ?_ (by first | (simp; done) | (simp; omega) | omega) _ | with_reducible refine Below.drew ?_ | with_reducible refine below_drewN ?_ _))).trans (hb2.mono (by simp; omega)); clear hrr hb2))
  have HRR : Hid (RB w2 (w.heap.size + 1 + 1 + 1) n w2.heap.size A2 c2 kk g2 a R) := RB.of_rr (by simpa using HR.out)
  clear HR
  generalize hB : w2.heap.size = B at *
  have hBs := Nat.le_of_eq hB.symm
  generalize hS : w.heap.size + 1 + 1 + 1 = S at *
  go_loopw [6, 8, 19] (fun s6 s8 s19 wr => ∃ k : Nat, k ≤ n ∧ s19 = .int .i64 k ∧ s8 = .int .i64 (mtrv ra st kk a R k) ∧ Below w.heap.size w wr ∧ B ≤ wr.heap.size ∧
     (wr.cell? ⟨w.heap.size, 0, none⟩ = some (.int .i64 t) ∧ wr.cell? ⟨w.heap.size, 1, none⟩ = some (.int .i64 lo) ∧ wr.cell? ⟨w.heap.size, 2, none⟩ = some (.int .i64 hi) ∧ wr.cell? ⟨w.heap.size, 3, none⟩ = some (.int .i64 st) ∧ wr.cell? ⟨w.heap.size, 4, none⟩ = some (.int .i64 ra)) ∧
     wr.cell? ⟨w.heap.size + 1, 0, none⟩ = some (.int .i64 (mpos ra st kk a R k)) ∧ wr.frozen? ⟨w.heap.size + 1, 0, none⟩ = false ∧
     Hid (wr.ownsRow B 3 1 s6 k (posL (mpos ra st kk a R) k)) ∧ Hid (∀ i, i < k → mok ra st kk a R i) ∧ Hid (RB wr S n B A2 c2 kk g2 a R)) (fun _ _ i _ => n - (intOf i).toNat)
  case atStart => exact ⟨0, Nat.zero_le _, rfl, rfl, HBW, hBs, ⟨e0, e1, e2, e3, e4⟩, a0, af, World.ownsRow_nil _ _ _ _, fun i hi => absurd hi (Nat.not_lt_zero _), HRR.out⟩
  case round =>
    clear HBW e0 e1 e2 e3 e4 a0 af HRR HB
    obtain ⟨k, hk, rfl, rfl, hbel, hws, ⟨e0, e1, e2, e3, e4⟩, a0, af, HOW, HOK, HRR⟩ := hrel
    by_cases hlt : k < n
    · have q0 : wr.cell? ⟨S, k, none⟩ = some (.slice (A2 k) (kk k) (c2 k)) := HRR.out.1.1 k hlt
      have hkk := (HKB.out k hlt).1
      have HPI := Lib.hid (mpos_in (R := R) (ra := ra) f1 f2 (fun i hi => (HKB.out i hi).2) k hk HOK.out)
      have HTI := Lib.hid (mtrv_in (R := R) (ra := ra) l1 h2 f1 f2 (fun i hi => (HKB.out i hi).2) k hk HOK.out)
      have HBD : Hid (∀ i, i < kk k → (-100000 ≤ a k i - mpos ra st kk a R k ∧ a k i - mpos ra st kk a R k ≤ 100000) ∧ (-1 ≤ R k i ∧ R k i ≤ 100000000)) := fun i hi => ⟨by have := (HKB.out k hlt).2 i hi; have := HPI.out; omega, HRB.out k i⟩
      have HM : Hid (∀ W, Below wr.heap.size wr W → Calls Tryz.prog 128 #[.agg #[.int .i64 t, .int .i64 lo, .int .i64 hi, .int .i64 st, .int .i64 ra], .int .i64 (mpos ra st kk a R k), .slice (A2 k) (kk k) (c2 k)] W fun e w' => e = .returned (.int .i64 (mr ra (mpos ra st kk a R k) (a k) (R k) (kk k))) ∧ Below wr.heap.size wr w') := by
        intro W hW
        refine (minimumRest_any t lo hi st ra (mpos ra st kk a R k) (A2 k) (g2 k) (kk k) (c2 k) (a k) (R k) W (by omega) ?_ HBD.out).mono (fun _ _ h => ⟨h.1, hW.trans (h.2.mono hW.size)⟩)
        exact (HRR.out.1.below hW).row hlt
      have p1 : (0 : Int) ≤ (k : Int) := by omega
      have p2 : (k : Int) < (n : Int) := by omega
      generalize hX : mr ra (mpos ra st kk a R k) (a k) (R k) (kk k) = X at HM
      have hb0 := hbel.size
      by_cases hx1 : X = -1
      · have g1 : (X == -1) = true := by simp [hx1]
        have HN : Hid (¬ mok ra st kk a R k) := fun h => h (hX.trans hx1)
        clear hX hx1
        go_wp2_with (go_at_call 128; (with_reducible refine Calls.mono (HM.out _ (by (repeat (first | with_reducible exact Below.refl _ _ | with_reducible assumption | with_reducible refine Below.alloc ?_ (by first | (simp; done) | (simp; omega) | omega) _ | with_reducible refine Below.setCell ?_ (by first | (simp; done) | (simp; omega) | omega) _ | with_reducible refine Below.drew ?_ | with_reducible refine below_drewN ?_ _)))) ?_); rintro e w3 ⟨rfl, hb3⟩; obtain ⟨hc3, hf3⟩ := bcell hb3; have HB3 := Lib.hid hb3; clear hb3)
        go_ret2
        have hb3 := hbel.trans (HB3.out.mono hb0)
        have hz3 := hb3.size
        exact ⟨by (repeat (first | with_reducible exact Below.refl _ _ | with_reducible assumption | with_reducible refine Below.alloc ?_ (by first | (simp; done) | (simp; omega) | omega) _ | with_reducible refine Below.setCell ?_ (by first | (simp; done) | (simp; omega) | omega) _ | with_reducible refine Below.drew ?_ | with_reducible refine below_drewN ?_ _)), .inr ⟨⟨k, hlt, HN.out⟩, rfl⟩⟩
      · have g1 : (X == -1) = false := by simp [hx1]
        obtain ⟨hj, hfi, htv⟩ := nxt_spec (fun h => hx1 (hX.symm.trans h))
        rw [hX] at hfi
        have hnext : mpos ra st kk a R (k + 1) = a k (nxt ra (mpos ra st kk a R k) (a k) (R k) (kk k)) := rfl
        have hok : mok ra st kk a R k := fun h => hx1 (hX.symm.trans h)
        have HPN := Lib.hid hnext
        have HON := Lib.hid hok
        obtain ⟨hA0, hrow⟩ := HRR.out.1.row hlt (by omega)
        obtain ⟨q1, q2⟩ := hrow _ hj
        have hgw : g2 k < wr.heap.size := lt_of q1
        simp only [Nat.zero_add] at q1
        rw [hA0] at q0 HM
        clear htv hnext hok hA0 hX hx1 q2
        obtain ⟨b1, b2⟩ := (HKB.out k hlt).2 _ hj
        obtain ⟨b3, b4⟩ := HPI.out
        generalize nxt ra (mpos ra st kk a R k) (a k) (R k) (kk k) = jx at *
        generalize hP : mpos ra st kk a R k = P at *
        generalize hTT : mtrv ra st kk a R k = T at *
        have HPK := Lib.hid hP
        have HTK := Lib.hid hTT
        clear hP hTT
        have hT := HTI.out
        have sn := siz_nn (a k jx - P)
        have sb := siz_le (x := a k jx - P) (b := 40000) (by omega) (by omega)
        have u1 : IntKind.i64.wrap (a k jx - P) = a k jx - P := IntWalk.i64_in _ (by omega)
        have u2 : IntKind.i64.wrap (T + siz (a k jx - P)) = T + siz (a k jx - P) := IntWalk.i64_in _ (by omega)
        have p6 : (0 : Int) ≤ (jx : Int) := by omega
        have p7 : (jx : Int) < (kk k : Int) := by omega
        have HRW := Lib.hid hrow
        have HFI := Lib.hid hfi
        clear hfi hrow
        go_wp2_with (first
          | (go_at_call 128; (with_reducible refine Calls.mono (HM.out _ (by (repeat (first | with_reducible exact Below.refl _ _ | with_reducible assumption | with_reducible refine Below.alloc ?_ (by first | (simp; done) | (simp; omega) | omega) _ | with_reducible refine Below.setCell ?_ (by first | (simp; done) | (simp; omega) | omega) _ | with_reducible refine Below.drew ?_ | with_reducible refine below_drewN ?_ _)))) ?_); rintro e w3 ⟨rfl, hb3⟩; obtain ⟨hc3, hf3⟩ := bcell hb3; have HB3 := Lib.hid hb3; clear hb3)
          | (go_at_call 129; go_loud (have hbW := (HB3.out).alloc (HB3.out.size) (Obj.cells #[.int .i64 X] 3); refine (pick_any _ _ _ t lo hi st ra P X (g2 k) (kk k) (c2 k) jx (a k) (R k) _ (keep hbW e0) (keep hbW e1) (keep hbW e2) (keep hbW e3) (keep hbW e4) (keep hbW a0) (by simp [go_sem]) (by omega) (by omega) (fun i hi => ⟨keep hbW (HRW.out i hi).1, keep hbW (HRW.out i hi).2⟩) HBD.out HFI.out).mono ?_; rintro e w4 ⟨rfl, hb4⟩; have HB4 : Hid (Below wr.heap.size wr w4) := hbW.trans (hb4.mono hbW.size); have hz4 := HB4.out.size; obtain ⟨hc4, hf4⟩ := bcell HB4.out; clear hbW hb4)))
        have c4 := keep HB4.out q1
        have c5 := keep HB4.out a0
        have f5 := (hf4 (w.heap.size + 1) 0 (by omega)).trans af
        have hx4 : w.heap.size + 1 < w4.heap.size := by omega
        go_region_held3 (fun w' => w'.cell? ⟨g2 k, jx * 2, none⟩ = some (.int .i64 (a k jx)) ∧ w'.cell? ⟨w.heap.size + 1, 0, none⟩ = some (.int .i64 P)) (simp [go_sem, *])
          (first | (go_at_call 132; ((with_reducible refine (size_any (a k jx - P) (by omega) (by omega) _).mono ?_); rintro e w1 ⟨rfl, rfl⟩)))
        have HO4 : Hid ((w4.setCell ⟨w.heap.size + 1, 0, none⟩ (.int .i64 (a k jx))).ownsRow B 3 1 u6 k (posL (mpos ra st kk a R) k)) := own_set (own_below HOW.out HB4.out) (by omega) _
        have HBS : Hid (B ≤ w4.heap.size) := (by omega : B ≤ w4.heap.size)
        go_wp2_with (first
          | (at_builtin; go_loud (refine wpList_append_own_at _ rfl _ _ 84 rfl B 3 i0 _ 1 8 undInts hi0 hz0 hz1 hz2 rfl (by decide) u6 _ _ rfl (HO4.out.alloc _) ⟨w4.heap.size, 0, none⟩ 1 1 [.int .i64 (a k jx)] rfl rfl (by simpa using news1 (w4.setCell ⟨w.heap.size + 1, 0, none⟩ (.int .i64 (a k jx))) _ _) (by simp [Value.oneCell']) (by unfold maxLen; omega) (by omega) (by simp; omega) ?_; intro v' w5 hown' hgrow hnil hloc; have HO5 := Lib.hid hown'; have HG5 := Lib.hid hgrow; clear hown' hgrow hnil hloc))
          | fail)
        go_roundw
        case rel =>
          have hB5 : Below B (w4.setCell ⟨w.heap.size + 1, 0, none⟩ (.int .i64 (a k jx))) w5 := (((Below.refl B _).alloc (by simpa using HBS.out) _).drew).grown HG5.out (by simp; exact Nat.le_succ_of_le HBS.out) (fun k h => (HO4.out.lt k h).1)
          obtain ⟨hc5, hf5⟩ := bcell hB5
          have hp : mpos ra st kk a R (k + 1) = a k jx := HPN.out
          have ht : mtrv ra st kk a R (k + 1) = T + siz (a k jx - P) := by
            show mtrv ra st kk a R k + siz (mpos ra st kk a R (k + 1) - mpos ra st kk a R k) = _
            rw [hp, HPK.out, HTK.out]
          have hB0 : w.heap.size + 1 < B := by omega
          have hcell : ∀ b o v, b < B → b ≠ w.heap.size + 1 → wr.cell? ⟨b, o, none⟩ = some v → w5.cell? ⟨b, o, none⟩ = some v := fun b o v h1 h2 h => (hc5 b o h1).trans (cell_ne (keep HB4.out h) (fun e _ => h2 e.symm))
          refine ⟨k + 1, by omega, by go_num, by rw [ht], ((hbel.trans (HB4.out.mono hb0)).setCell (show w.heap.size ≤ w.heap.size + 1 by omega) _).trans (hB5.mono (by omega)), by have := hB5.size; simp at this; omega, ⟨hcell _ _ _ (by omega) (by omega) e0, hcell _ _ _ (by omega) (by omega) e1, hcell _ _ _ (by omega) (by omega) e2, hcell _ _ _ (by omega) (by omega) e3, hcell _ _ _ (by omega) (by omega) e4⟩, ?_, ?_, ?_, ?_, ?_⟩
          · rw [hp]
            exact (hc5 _ _ hB0).trans (World.cell?_setCell_same w4 _ _ c5)
          · rw [hf5 _ _ hB0, World.frozen?_setCell]
            exact f5
          · show w5.ownsRow B 3 1 v' (k + 1) (posL (mpos ra st kk a R) (k + 1))
            rw [posL_s, hp]
            exact HO5.out
          · exact fun i hi => (by rcases Nat.lt_succ_iff_lt_or_eq.1 hi with h | h; exact HOK.out i h; rw [h]; exact HON.out)
          · refine HRR.out.of (fun b o h1 h2 => ?_) (fun b o h1 h2 => ?_)
            · rw [hc5 b o h2, World.cell?_setCell_other w4 ⟨w.heap.size + 1, 0, none⟩ ⟨b, o, none⟩ _ (by intro e; have := congrArg Addr.block e; simp at this; omega)]
              exact hc4 b o (by omega)
            · rw [hf5 b o h2, World.frozen?_setCell]
              exact hf4 b o (by omega)
        case measure => simp [intOf]; omega
    · obtain rfl : k = n := by omega
      go_wp2_with fail
      go_ret2
      exact ⟨hbel, .inl ⟨HOK.out, _, rfl, own_base HOW.out (by omega)⟩⟩
end Go.Proofs.YtnfoagcpgegldaaGreat
namespace Go.Proofs.YtnfoagcpgegldaaGreat
open Go.RowKit Go.Shelf Go.Sort
attribute [local go_sem] idx3_0 idx3_1 idx3_2 old1 fro1 old2 fro2 old3 fro3 old4 fro4 old5 fro5 old6 fro6 old7 fro7 old8 fro8 old9 fro9 old10 fro10 old11 fro11 old12 fro12
set_option maxRecDepth 100000 in
set_option maxHeartbeats 400000 in
theorem bwithin_any (x lo hi : Int) (w : World) :
    Calls Tryz.prog 26 #[.int .i64 x, .int .i64 lo, .int .i64 hi] w fun e w' => e = .returned (.bool (wi x lo hi)) ∧ w = w' := by
  by_cases h : lo ≤ x
  · go_enter Tryz.func26, Tryz.ntmps26
    go_wp2
    go_ret
    exact ⟨by simp [wi, h], rfl⟩
  · go_enter Tryz.func26, Tryz.ntmps26
    go_wp2
    go_ret
    exact ⟨ret_bool (wi_f.2 (by omega)).symm, rfl⟩
set_option maxRecDepth 100000 in
set_option maxHeartbeats 400000 in
theorem bsize_any (x : Int) (h1 : -9223372036854775807 ≤ x) (h2 : x ≤ 9223372036854775807) (w : World) :
    Calls Tryz.prog 105 #[.int .i64 x] w fun e w' => e = .returned (.int .i64 (siz x)) ∧ w = w' := by
  go_enter Tryz.func105, Tryz.ntmps105
  go_wp2
  all_goals (go_ret; exact ⟨ret_int (by unfold siz; omega), rfl⟩)
theorem mod_parts (x t : Int) (h1 : 1 ≤ t) : (x.tmod t < 0 ∧ x.tmod t + t = x % t ∧ -t < x.tmod t) ∨ (0 ≤ x.tmod t ∧ x.tmod t = x % t ∧ x.tmod t < t) := by
  have e1 := Int.tdiv_mul_add_tmod x t
  have h3 := Int.emod_nonneg x (show t ≠ 0 by omega)
  have h4 := Int.emod_lt_of_pos x (show 0 < t by omega)
  rcases Int.lt_or_le (x.tmod t) 0 with h | h
  · left
    have h6 : -t < x.tmod t := Int.lt_tmod_of_pos x (by omega)
    refine ⟨h, ?_, h6⟩
    have h8 : x = x.tmod t + t + t * (x.tdiv t - 1) := by rw [Int.mul_sub, Int.mul_one, Int.mul_comm]; omega
    have h9 : x % t = (x.tmod t + t + t * (x.tdiv t - 1)) % t := by rw [← h8]
    rw [h9, Int.add_mul_emod_self_left, Int.emod_eq_of_lt (by omega) (by omega)]
  · right
    have h6 : x.tmod t < t := Int.tmod_lt_of_pos x (by omega)
    refine ⟨h, ?_, h6⟩
    have h8 : x = x.tmod t + t * x.tdiv t := by rw [Int.mul_comm]; omega
    have h9 : x % t = (x.tmod t + t * x.tdiv t) % t := by rw [← h8]
    rw [h9, Int.add_mul_emod_self_left, Int.emod_eq_of_lt (by omega) (by omega)]
theorem mod_zero (x t : Int) (h1 : 1 ≤ t) : (x % t == 0) = (x.tmod t == 0) := by
  rcases mod_parts x t h1 with ⟨a, b, c⟩ | ⟨a, b, c⟩
  · rw [← b]
    have e1 : (x.tmod t == 0) = false := by simp; omega
    have e2 : (x.tmod t + t == 0) = false := by simp; omega
    rw [e1, e2]
  · rw [b]
theorem addr_add (b o i : Nat) : ((⟨b, o, none⟩ : Addr).add i) = ⟨b, o + i, none⟩ := by simp [Addr.add]
def intsL (n : Nat) (xs : Nat → Int) : List Value := (List.range n).map fun i => .int .i64 (xs i)
theorem own_ints {w : World} {base e n : Nat} {v : Value} {xs : Nat → Int} (h : w.ownsRow base e 1 v n (intsL n xs)) : v = .slice (sA v) n (sC v) ∧ IA w (sA v) n xs := by
  obtain ⟨h1, h2⟩ := own_parts h
  refine ⟨h1, fun h0 => ?_⟩
  obtain ⟨h3, h4⟩ := h2 h0
  rw [h3] at h1
  rw [h1] at h
  refine ⟨sG v, 0, h3, fun i hi => ?_⟩
  have hc := h.cells (g := sG v) rfl i (.int .i64 (xs i)) (by simp [intsL, hi])
  rwa [addr_add] at hc
theorem tg_hit {t : Int} {xs : Nat → Int} {n k : Nat} (hk : k < n) (h : wi (xs k) 0 (t - 1) = false) : ((List.range n).any fun i => !wi (xs i) 0 (t - 1)) = true := List.any_eq_true.2 ⟨k, List.mem_range.2 hk, by simp [h]⟩
theorem tg_miss {t : Int} {xs : Nat → Int} {n : Nat} (h : ∀ i, i < n → wi (xs i) 0 (t - 1) = true) : ((List.range n).any fun i => !wi (xs i) 0 (t - 1)) = false := List.any_eq_false.2 fun i hi => by simp [h i (List.mem_range.1 hi)]
end Go.Proofs.YtnfoagcpgegldaaGreat
namespace Go.Proofs.YtnfoagcpgegldaaGreat
open Go.RowKit Go.Shelf Go.Sort
/-- so many windows, the first and the last index of each -/
structure WS where
  m : Nat
  F : Nat → Nat
  L : Nat → Nat
def wsNew (f : Nat → Int) (s : WS) (k : Nat) : Prop := s.m = 0 ∨ f (s.F (s.m - 1)) ≠ f k
instance (f : Nat → Int) (s : WS) (k : Nat) : Decidable (wsNew f s k) := by unfold wsNew; infer_instance
def wsAdd (s : WS) (k : Nat) : WS := ⟨s.m + 1, fun j => if j = s.m then k else s.F j, fun j => if j = s.m then k else s.L j⟩
def wsExt (s : WS) (k : Nat) : WS := ⟨s.m, s.F, fun j => if j + 1 = s.m then k else s.L j⟩
/-- the windows of the first k answers -/
def ws (f : Nat → Int) : Nat → WS
  | 0 => ⟨0, fun _ => 0, fun _ => 0⟩
  | k + 1 => if wsNew f (ws f k) k then wsAdd (ws f k) k else wsExt (ws f k) k
structure WOk (f : Nat → Int) (k : Nat) (s : WS) : Prop where
  pos : 0 < k → 0 < s.m
  le : s.m ≤ k
  fst : 0 < s.m → s.F 0 = 0
  nxt : ∀ j, j + 1 < s.m → s.F (j + 1) = s.L j + 1
  lst : ∀ j, j + 1 = s.m → s.L j + 1 = k
  fl : ∀ j, j < s.m → s.F j ≤ s.L j
  lk : ∀ j, j < s.m → s.L j < k
  same : ∀ j, j < s.m → ∀ i, s.F j ≤ i → i ≤ s.L j → f i = f (s.F j)
  diff : ∀ j, j + 1 < s.m → f (s.F (j + 1)) ≠ f (s.F j)
theorem ws_ok (f : Nat → Int) : ∀ k, WOk f k (ws f k)
  | 0 => ⟨fun h => absurd h (Nat.lt_irrefl 0), Nat.le_refl 0, fun h => absurd h (Nat.lt_irrefl 0), fun j h => absurd h (Nat.not_lt_zero _), fun j h => absurd h (by show ¬ j + 1 = 0; omega), fun j h => absurd h (Nat.not_lt_zero _), fun j h => absurd h (Nat.not_lt_zero _), fun j h => absurd h (Nat.not_lt_zero _), fun j h => absurd h (Nat.not_lt_zero _)⟩
  | k + 1 => by
    have ih := ws_ok f k
    unfold ws
    generalize ws f k = s at ih ⊢
    by_cases hn : wsNew f s k
    · rw [if_pos hn]
      refine ⟨fun _ => Nat.succ_pos _, Nat.succ_le_succ ih.le, fun _ => ?_, fun j h => ?_, fun j h => ?_, fun j h => ?_, fun j h => ?_, fun j h i h1 h2 => ?_, fun j h => ?_⟩
      · show (if 0 = s.m then k else s.F 0) = 0
        by_cases h0 : 0 = s.m
        · rw [if_pos h0]
          rcases Nat.eq_zero_or_pos k with q | q
          · exact q
          · have := ih.pos q; omega
        · rw [if_neg h0]
          exact ih.fst (by omega)
      · replace h : j + 1 < s.m + 1 := h
        show (if j + 1 = s.m then k else s.F (j + 1)) = (if j = s.m then k else s.L j) + 1
        rw [if_neg (show ¬ j = s.m by omega)]
        by_cases h0 : j + 1 = s.m
        · rw [if_pos h0]
          exact (ih.lst j h0).symm
        · rw [if_neg h0]
          exact ih.nxt j (by omega)
      · replace h : j + 1 = s.m + 1 := h
        show (if j = s.m then k else s.L j) + 1 = k + 1
        rw [if_pos (by omega)]
      · replace h : j < s.m + 1 := h
        show (if j = s.m then k else s.F j) ≤ (if j = s.m then k else s.L j)
        by_cases h0 : j = s.m
        · rw [if_pos h0, if_pos h0]; exact Nat.le_refl k
        · rw [if_neg h0, if_neg h0]
          exact ih.fl j (by omega)
      · replace h : j < s.m + 1 := h
        show (if j = s.m then k else s.L j) < k + 1
        by_cases h0 : j = s.m
        · rw [if_pos h0]; omega
        · rw [if_neg h0]
          have := ih.lk j (by omega)
          omega
      · replace h : j < s.m + 1 := h
        replace h1 : (if j = s.m then k else s.F j) ≤ i := h1
        replace h2 : i ≤ (if j = s.m then k else s.L j) := h2
        show f i = f (if j = s.m then k else s.F j)
        by_cases h0 : j = s.m
        · rw [if_pos h0] at h1 h2 ⊢
          rw [show i = k by omega]
        · rw [if_neg h0] at h1 h2 ⊢
          exact ih.same j (by omega) i h1 h2
      · replace h : j + 1 < s.m + 1 := h
        show f (if j + 1 = s.m then k else s.F (j + 1)) ≠ f (if j = s.m then k else s.F j)
        rw [if_neg (show ¬ j = s.m by omega)]
        by_cases h0 : j + 1 = s.m
        · rw [if_pos h0]
          rcases hn with q | q
          · omega
          · rw [show j = s.m - 1 by omega]
            exact fun e => q e.symm
        · rw [if_neg h0]
          exact ih.diff j (by omega)
    · rw [if_neg hn]
      have hm : 0 < s.m := by
        rcases Nat.eq_zero_or_pos s.m with q | q
        · exact absurd (Or.inl q) hn
        · exact q
      have hf : f (s.F (s.m - 1)) = f k := by
        rcases Classical.em (f (s.F (s.m - 1)) = f k) with q | q
        · exact q
        · exact absurd (Or.inr q) hn
      refine ⟨fun _ => hm, Nat.le_succ_of_le ih.le, fun _ => ih.fst hm, fun j h => ?_, fun j h => ?_, fun j h => ?_, fun j h => ?_, fun j h i h1 h2 => ?_, fun j h => ih.diff j h⟩
      · replace h : j + 1 < s.m := h
        show s.F (j + 1) = (if j + 1 = s.m then k else s.L j) + 1
        rw [if_neg (by omega)]
        exact ih.nxt j h
      · replace h : j + 1 = s.m := h
        show (if j + 1 = s.m then k else s.L j) + 1 = k + 1
        rw [if_pos h]
      · replace h : j < s.m := h
        show s.F j ≤ (if j + 1 = s.m then k else s.L j)
        have := ih.fl j h
        have := ih.lk j h
        split <;> omega
      · replace h : j < s.m := h
        show (if j + 1 = s.m then k else s.L j) < k + 1
        have := ih.lk j h
        split <;> omega
      · replace h : j < s.m := h
        replace h1 : s.F j ≤ i := h1
        replace h2 : i ≤ (if j + 1 = s.m then k else s.L j) := h2
        show f i = f (s.F j)
        by_cases h0 : j + 1 = s.m
        · rw [if_pos h0] at h2
          rcases Nat.lt_or_eq_of_le h2 with q | q
          · have := ih.lst j h0
            exact ih.same j h i h1 (by omega)
          · rw [q, ← hf, show s.m - 1 = j by omega]
        · rw [if_neg h0] at h2
          exact ih.same j h i h1 h2
/-- the windows' cells in memory -/
def wfld (f : Nat → Int) (s : WS) (j r : Nat) : Value := if r = 0 then .int .i64 (f (s.F j)) else if r = 1 then .int .i64 (s.F j) else .int .i64 (s.L j)
def winL (f : Nat → Int) (s : WS) : List Value := (List.range (s.m * 3)).map fun i => wfld f s (i / 3) (i % 3)
theorem winL_len (f : Nat → Int) (s : WS) : (winL f s).length = s.m * 3 := by simp [winL]
theorem winL_get {f : Nat → Int} {s : WS} {j r : Nat} (hj : j < s.m) (hr : r < 3) : (winL f s)[j * 3 + r]? = some (wfld f s j r) := by
  have h : j * 3 + r < s.m * 3 := by omega
  have e1 : (j * 3 + r) / 3 = j := by omega
  have e2 : (j * 3 + r) % 3 = r := by omega
  simp [winL, h, e1, e2]
theorem list_ext3 {l l' : List Value} {m : Nat} (h : l.length = m * 3) (h' : l'.length = m * 3) (hg : ∀ j r, j < m → r < 3 → l[j * 3 + r]? = l'[j * 3 + r]?) : l = l' := by
  refine List.ext_getElem? fun i => ?_
  by_cases hi : i < m * 3
  · have := hg (i / 3) (i % 3) (by omega) (by omega)
    rwa [show i / 3 * 3 + i % 3 = i by omega] at this
  · rw [List.getElem?_eq_none (by omega), List.getElem?_eq_none (by omega)]
/-- the row with a new window, whose last index is not set yet -/
theorem winL_add (f : Nat → Int) (s : WS) (k : Nat) (z : Value) : (winL f s ++ [.int .i64 (f k), .int .i64 k, z]).set (s.m * 3 + 2) (.int .i64 k) = winL f (wsAdd s k) := by
  have hl : (winL f s).length = s.m * 3 := winL_len f s
  refine list_ext3 (m := s.m + 1) (by simp [hl]; omega) (by rw [winL_len]; rfl) fun j r hj hr => ?_
  rw [winL_get (s := wsAdd s k) hj hr, List.getElem?_set]
  rcases Nat.lt_or_eq_of_le (Nat.le_of_lt_succ hj) with h | h
  · rw [if_neg (by omega), List.getElem?_append_left (by omega), winL_get h hr]
    simp only [wfld, wsAdd, if_neg (show ¬ j = s.m by omega)]
  · subst h
    simp only [wfld, wsAdd]
    rcases (by omega : r = 0 ∨ r = 1 ∨ r = 2) with rfl | rfl | rfl
    · rw [if_neg (by omega), List.getElem?_append_right (by omega), hl]
      simp
    · rw [if_neg (by omega), List.getElem?_append_right (by omega), hl]
      simp
    · rw [if_pos rfl, if_pos (by simp [hl])]
      simp
theorem winL_add2 (f : Nat → Int) (s : WS) (k : Nat) : winL f s ++ [.int .i64 (f k), .int .i64 k, .int .i64 k] = winL f (wsAdd s k) := by
  rw [← winL_add f s k (.int .i64 k)]
  refine (list_ext3 (m := s.m + 1) (by simp [winL_len]; omega) (by simp [winL_len]; omega) fun j r hj hr => ?_).symm
  rw [List.getElem?_set]
  by_cases h : s.m * 3 + 2 = j * 3 + r
  · obtain ⟨rfl, rfl⟩ : j = s.m ∧ r = 2 := by omega
    rw [if_pos rfl, if_pos (by simp [winL_len]), List.getElem?_append_right (by rw [winL_len]; omega), winL_len]
    simp
  · rw [if_neg h]
theorem winL_ext (f : Nat → Int) (s : WS) (k : Nat) (h0 : 0 < s.m) : (winL f s).set ((s.m - 1) * 3 + 2) (.int .i64 k) = winL f (wsExt s k) := by
  refine list_ext3 (m := s.m) (by simp [winL_len]) (by rw [winL_len]; rfl) fun j r hj hr => ?_
  rw [winL_get (s := wsExt s k) hj hr, List.getElem?_set]
  by_cases h : (s.m - 1) * 3 + 2 = j * 3 + r
  · obtain ⟨rfl, rfl⟩ : j = s.m - 1 ∧ r = 2 := by omega
    rw [if_pos h, if_pos (by rw [winL_len]; omega)]
    simp [wfld, wsExt, show s.m - 1 + 1 = s.m by omega]
  · rw [if_neg h, winL_get hj hr]
    simp only [wfld, wsExt]
    rcases (by omega : r = 0 ∨ r = 1 ∨ r = 2) with rfl | rfl | rfl
    · rfl
    · rfl
    · have : ¬ j + 1 = s.m := by omega
      simp [this]
/-- where the windows lie in memory -/
def WinAt (w : World) (A : Option Addr) (f : Nat → Int) (s : WS) : Prop := 0 < s.m → ∃ g, A = some ⟨g, 0, none⟩ ∧ ∀ j, j < s.m → w.cell? ⟨g, j * 3, none⟩ = some (.int .i64 (f (s.F j))) ∧ w.cell? ⟨g, j * 3 + 1, none⟩ = some (.int .i64 (s.F j)) ∧ w.cell? ⟨g, j * 3 + 2, none⟩ = some (.int .i64 (s.L j))
theorem WinAt.below {w w1 : World} {A : Option Addr} {f : Nat → Int} {s : WS} (h : WinAt w A f s) (hb : Below w.heap.size w w1) : WinAt w1 A f s := fun h0 => by
  obtain ⟨g, e, hc⟩ := h h0
  exact ⟨g, e, fun j hj => ⟨keep hb (hc j hj).1, keep hb (hc j hj).2.1, keep hb (hc j hj).2.2⟩⟩
theorem own_win {w : World} {base e : Nat} {v : Value} {f : Nat → Int} {s : WS} (h : w.ownsRow base e 3 v s.m (winL f s)) : v = .slice (sA v) s.m (sC v) ∧ WinAt w (sA v) f s := by
  obtain ⟨h1, h2⟩ := own_parts h
  refine ⟨h1, fun h0 => ?_⟩
  obtain ⟨h3, h4⟩ := h2 h0
  rw [h3] at h1
  rw [h1] at h
  refine ⟨sG v, h3, fun j hj => ?_⟩
  have hc := fun r (hr : r < 3) => h.cells (g := sG v) rfl (j * 3 + r) (wfld f s j r) (winL_get hj hr)
  have e : ∀ i, (⟨sG v, 0, none⟩ : Addr).add i = ⟨sG v, i, none⟩ := fun i => by rw [addr_add, Nat.zero_add]
  simp only [e] at hc
  exact ⟨hc 0 (by decide), hc 1 (by decide), hc 2 (by decide)⟩
end Go.Proofs.YtnfoagcpgegldaaGreat
