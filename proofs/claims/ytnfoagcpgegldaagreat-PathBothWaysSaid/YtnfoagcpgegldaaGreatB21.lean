/- Helpers: digits subtracted; the digits of an int (base.Wide). -/
import Derived.Test.YtnfoagcpgegldaaGreatB20
namespace Go.Proofs.YtnfoagcpgegldaaGreat
open Go.RowKit Go.Shelf Go.Sort
attribute [local go_sem] idx3_0 idx3_1 idx3_2 old1 fro1 old2 fro2 old3 fro3 old4 fro4 old5 fro5 old6 fro6 old7 fro7 old8 fro8 old9 fro9 old10 fro10 old11 fro11 old12 fro12
theorem sub_round {X Y C Z C' : Int} (x0 : 0 ≤ X) (x1 : X < 1000000000) (y0 : 0 ≤ Y) (y1 : Y < 1000000000) (c0 : -1 ≤ C) (c1 : C ≤ 0) (hZ : Z = (X - Y + C) % 1000000000) (hC : C' = (X - Y + C) / 1000000000) :
    (X - Y - -C < 0 → X - Y - -C + 1000000000 = Z ∧ -C' = 1) ∧ (¬ X - Y - -C < 0 → X - Y - -C = Z ∧ -C' = 0) := by omega
set_option maxRecDepth 100000 in
set_option maxHeartbeats 2000000 in
theorem subDigits_any (A B : Option Addr) (n m c c' : Nat) (N M : Int) (w : World) (hn : n ≤ 58) (hm : m ≤ 58) (_ : 0 ≤ N) (hN : N < bp n) (hA : DR w A n c N) (M0 : 0 ≤ M) (hM : M < bp m) (hB : DR w B m c' M) (hle : M ≤ N) :
    Calls Tryz.prog 144 #[.slice A n c, .slice B m c'] w fun e w' => ∃ A' c2, e = .returned (.slice A' (ln (N - M)) c2) ∧ DN w w' A' (ln (N - M)) c2 (N - M) ∧ Below w.heap.size w w' := by
  have HD2 := fun W i hi hW => Lib.hid (digit_any B m c' i M W (by omega) hi M0 hM hW)
  have HT := fun W A5 C5 hW => Lib.hid (trimmed_any A5 n C5 (N - M) W (by omega) (by omega) (show N - M < bp n by omega) hW)
  have HL := Lib.hid (show ln (N - M) ≤ n from by
    have h1 : N - M < bp n := by omega
    have h2 := ln_spec (N := N - M) (by omega) (Int.lt_of_lt_of_le h1 (bp_mono (show n ≤ 60 by omega)))
    rcases h2.2.1 with z | z
    · omega
    · rcases Nat.lt_or_ge n (ln (N - M)) with q | q
      · have := bp_mono (show n ≤ ln (N - M) - 1 by omega)
        omega
      · exact q)
  have HA := Lib.hid hA
  have HB := Lib.hid hB
  clear hA hB hN M0 hM hle
  obtain ⟨i0, hi0, hz0, hz1, hz2⟩ := info_parts infoInt
  go_enter Tryz.func144, Tryz.ntmps144
  go_wp2_with fail
  go_loopw [5, 6, 7] (fun s5 s6 s7 wr => ∃ k : Nat, k ≤ n ∧ s6 = .int .i64 (-cyS N M k) ∧ s7 = .int .i64 k ∧ Below w.heap.size w wr ∧ Hid (wr.ownsRow w.heap.size 3 1 s5 k (intsV k (dg (N - M))))) (fun _ _ i _ => n - (intOf i).toNat)
  case atStart => exact ⟨0, by omega, rfl, rfl, Below.refl _ _, World.ownsRow_nil _ _ _ _⟩
  case round =>
    obtain ⟨k, hk, rfl, rfl, hb, HO⟩ := hrel
    have hws := hb.size
    by_cases hcond : k < n
    · rcases HA.out.1 with ⟨_, h0, _⟩ | ⟨g, rfl, hcc, hcc2⟩
      · omega
      have cX := keep hb ((HA.out.2 g rfl).2 k hcond)
      have hc := cyS_bd N M k
      have b1 := dg_bd N k
      have b2 := dg_bd M k
      have hR := sub_round b1.1 b1.2 b2.1 b2.2 hc.1 hc.2 (sub_dg N M k) (cyS_s N M k)
      have HK := Lib.hid (intsV_s k (dg (N - M)))
      have HD2k := fun W hW => HD2 W k (by omega) hW
      generalize hCn : -cyS N M (k + 1) = C' at *
      have HCn := Lib.hid hCn
      clear hCn
      generalize hCC : -cyS N M k = C at *
      have hC0 : 0 ≤ C ∧ C ≤ 1 := by omega
      clear hCC hc
      generalize dg N k = X at *
      generalize dg M k = Y at *
      generalize dg (N - M) k = Z at *
      have u1 : IntKind.i64.wrap (X - Y) = X - Y := IntWalk.i64_in _ (by omega)
      have u2 : IntKind.i64.wrap (X - Y - C) = X - Y - C := IntWalk.i64_in _ (by omega)
      have u7 : IntKind.i64.wrap ((k : Int) + 1) = (k : Int) + 1 := IntWalk.i64_in _ (by omega)
      have g0 : (0 : Int) ≤ (k : Int) := by omega
      have g1 : (k : Int) < (n : Int) := by omega
      by_cases hs : X - Y - C < 0
      · obtain ⟨hz, hc'⟩ := hR.1 hs
        subst hc'
        have u3 : IntKind.i64.wrap (X - Y - C + 1000000000) = Z := by rw [IntWalk.i64_in _ (by omega)]; exact hz
        clear hR hz
        go_wp2_with fail
        go_region_held3 (fun w' => w'.cell? ⟨g, k, none⟩ = some (.int .i64 X)) (simp [go_sem, *])
          (first | (go_at_call 159; (with_reducible refine Calls.mono (HD2k _ (HB.out.below (show Below w.heap.size w _ by (repeat (first | with_reducible exact Below.refl _ _ | with_reducible assumption | with_reducible refine Below.alloc ?_ (by first | (simp; done) | (simp; omega) | omega) _ | with_reducible refine Below.setCell ?_ (by first | (simp; done) | (simp; omega) | omega) _ | with_reducible refine Below.drew ?_ | with_reducible refine below_drewN ?_ _))))).out ?_); rintro e w1 ⟨rfl, rfl⟩) | fail)
        all_goals
          go_wp2_with (first
            | (at_builtin; go_loud (refine wpList_append_own_at _ rfl _ _ 84 rfl w.heap.size 3 i0 _ 1 8 undInts hi0 hz0 hz1 hz2 rfl (by decide) u5 _ _ rfl ((HO.out.alloc _).drew) ⟨wr.heap.size, 0, none⟩ 1 1 [.int .i64 Z] rfl rfl (by simpa using news1 wr _ _) (by simp [Value.oneCell']) (by unfold maxLen; omega) (by omega) (by simp; omega) ?_; intro v' w5 hown' hgrow hnil hloc; have HO5 := Lib.hid hown'; have HG5 := Lib.hid hgrow; clear hown' hgrow hnil hloc))
            | fail)
          go_roundw
          case rel =>
            have hB5 : Below w.heap.size wr w5 := by
              have hs := hb.size
              first
                | exact ((Below.refl w.heap.size wr).alloc hs _).grown HG5.out (by simp; omega) (fun k h => (HO.out.lt k h).1)
                | exact (((Below.refl w.heap.size wr).alloc hs _).drew).grown HG5.out (by simp; omega) (fun k h => (HO.out.lt k h).1)
                | exact (((Below.refl w.heap.size wr).drew).alloc hs _).grown HG5.out (by simp; omega) (fun k h => (HO.out.lt k h).1)
                | exact ((((Below.refl w.heap.size wr).drew).alloc hs _).drew).grown HG5.out (by simp; omega) (fun k h => (HO.out.lt k h).1)
            refine ⟨k + 1, by omega, by rw [HCn.out], by go_num, hb.trans hB5, ?_⟩
            show w5.ownsRow _ _ _ _ _ _
            rw [HK.out]
            exact HO5.out
          case measure => simp [intOf]; omega
      · obtain ⟨hz, hc'⟩ := hR.2 hs
        subst hc'
        replace u2 := u2.trans hz
        rw [hz] at hs
        clear hR hz
        go_wp2_with fail
        go_region_held3 (fun w' => w'.cell? ⟨g, k, none⟩ = some (.int .i64 X)) (simp [go_sem, *])
          (first | (go_at_call 159; (with_reducible refine Calls.mono (HD2k _ (HB.out.below (show Below w.heap.size w _ by (repeat (first | with_reducible exact Below.refl _ _ | with_reducible assumption | with_reducible refine Below.alloc ?_ (by first | (simp; done) | (simp; omega) | omega) _ | with_reducible refine Below.setCell ?_ (by first | (simp; done) | (simp; omega) | omega) _ | with_reducible refine Below.drew ?_ | with_reducible refine below_drewN ?_ _))))).out ?_); rintro e w1 ⟨rfl, rfl⟩) | fail)
        all_goals
          go_wp2_with (first
            | (at_builtin; go_loud (refine wpList_append_own_at _ rfl _ _ 84 rfl w.heap.size 3 i0 _ 1 8 undInts hi0 hz0 hz1 hz2 rfl (by decide) u5 _ _ rfl ((HO.out.alloc _).drew) ⟨wr.heap.size, 0, none⟩ 1 1 [.int .i64 Z] rfl rfl (by simpa using news1 wr _ _) (by simp [Value.oneCell']) (by unfold maxLen; omega) (by omega) (by simp; omega) ?_; intro v' w5 hown' hgrow hnil hloc; have HO5 := Lib.hid hown'; have HG5 := Lib.hid hgrow; clear hown' hgrow hnil hloc))
            | fail)
          go_roundw
          case rel =>
            have hB5 : Below w.heap.size wr w5 := by
              have hs := hb.size
              first
                | exact ((Below.refl w.heap.size wr).alloc hs _).grown HG5.out (by simp; omega) (fun k h => (HO.out.lt k h).1)
                | exact (((Below.refl w.heap.size wr).alloc hs _).drew).grown HG5.out (by simp; omega) (fun k h => (HO.out.lt k h).1)
                | exact (((Below.refl w.heap.size wr).drew).alloc hs _).grown HG5.out (by simp; omega) (fun k h => (HO.out.lt k h).1)
                | exact ((((Below.refl w.heap.size wr).drew).alloc hs _).drew).grown HG5.out (by simp; omega) (fun k h => (HO.out.lt k h).1)
            refine ⟨k + 1, by omega, by rw [HCn.out], by go_num, hb.trans hB5, ?_⟩
            show w5.ownsRow _ _ _ _ _ _
            rw [HK.out]
            exact HO5.out
          case measure => simp [intOf]; omega
    · have q1 : ¬ (k : Int) < (n : Int) := by omega
      obtain rfl : k = n := by omega
      obtain ⟨e5, D5, G5⟩ := own_dr HO.out
      clear HO hcond hk
      generalize sA u5 = A5 at *
      generalize sC u5 = C5 at *
      subst e5
      have HD5 := Lib.hid D5
      have HG5 := Lib.hid G5
      clear D5 G5
      go_wp2_with (first
        | (go_at_call 158; (with_reducible refine Calls.mono (HT _ A5 C5 HD5.out).out ?_); rintro e w1 ⟨rfl, hb1⟩; have HD6 := Lib.hid (HD5.out.below hb1); have B1 := Lib.hid (thenD hb hb1); clear hb1)
        | fail)
      go_ret
      exact ⟨_, _, rfl, ⟨HD6.out.less HL.out, HG5.out⟩, B1.out⟩
end Go.Proofs.YtnfoagcpgegldaaGreat
namespace Go.Proofs.YtnfoagcpgegldaaGreat
open Go.RowKit Go.Shelf Go.Sort
attribute [local go_sem] idx3_0 idx3_1 idx3_2 old1 fro1 old2 fro2 old3 fro3 old4 fro4 old5 fro5 old6 fro6 old7 fro7 old8 fro8 old9 fro9 old10 fro10 old11 fro11 old12 fro12
/-- A number as a sign and digits. -/
def WV (N : Int) (A : Option Addr) (c : Nat) : Value := .agg #[.int .i64 (sgn N), .slice A (ln (siz N)) c]
theorem dr_set {w : World} {A : Option Addr} {n c B : Nat} {N : Int} (h : DR w A n c N) (hg : ∀ g, A = some ⟨g, 0, none⟩ → B < g) (o : Nat) (u : Value) : DR (w.setCell ⟨B, o, none⟩ u) A n c N :=
  ⟨h.1, fun g e => ⟨by have := (h.2 g e).1; simpa using this, fun i hi => cell_ne ((h.2 g e).2 i hi) (fun e1 _ => by have := hg g e; omega)⟩⟩
theorem ln_le {N : Int} {k : Nat} (h0 : 0 ≤ N) (h : N < bp 60) (hk : N < bp k) : ln N ≤ k := by
  rcases (ln_spec h0 h).2.1 with z | z
  · omega
  · rcases Nat.lt_or_ge k (ln N) with q | q
    · have := bp_mono (show k ≤ ln N - 1 by omega)
      omega
    · exact q
theorem bp_3 : bp 3 = 1000000000000000000000000000 := by decide
set_option maxRecDepth 100000 in
set_option maxHeartbeats 2000000 in
theorem wideOf_neg (x Y : Int) (w : World) (hx : x < 0) (hY : Y = -x) (Y0 : 0 ≤ Y) (Y1 : Y < bp 3) (Y2 : Y ≤ 9223372036854775807) :
    Calls Tryz.prog 104 #[.int .i64 x] w fun e w' => ∃ A c, e = .returned (.agg #[.int .i64 (if Y = 0 then 0 else -1), .slice A (ln Y) c]) ∧ DN w w' A (ln Y) c Y ∧ Below w.heap.size w w' := by
  have u0 : IntKind.i64.wrap (-x) = Y := by rw [← hY]; exact IntWalk.i64_in _ (by omega)
  clear hY
  have HW := fun W A5 n5 C5 h5 (hN : Y < bp n5) hW => Lib.hid (wideOf_any (-1) A5 n5 C5 Y W h5 Y0 hN hW)
  generalize (if Y = 0 then (0 : Int) else -1) = sv at *
  have H60 := Lib.hid (show Y < bp 60 from Int.lt_of_lt_of_le Y1 (bp_mono (by decide)))
  have H3 := Lib.hid Y1
  clear Y1
  obtain ⟨i0, hi0, hz0, hz1, hz2⟩ := info_parts infoInt
  go_enter Tryz.func104, Tryz.ntmps104
  go_wp2_with fail
  go_loopw [0, 4] (fun s0 s4 wr => ∃ k : Nat, k ≤ 3 ∧ s0 = .int .i64 (Y / bp k) ∧ Below w.heap.size w wr ∧ (wr.cell? ⟨w.heap.size, 0, none⟩ = some (.int .i64 0) ∧ wr.cell? ⟨w.heap.size, 1, none⟩ = some (.slice none 0 0) ∧ wr.frozen? ⟨w.heap.size, 0, none⟩ = false ∧ wr.frozen? ⟨w.heap.size, 1, none⟩ = false) ∧ w.heap.size + 1 ≤ wr.heap.size ∧ Hid (wr.ownsRow (w.heap.size + 1) 3 1 s4 k (intsV k (dg Y)))) (fun i _ _ => (intOf i).toNat)
  case atStart => exact ⟨0, by omega, by rw [bp_0, Int.ediv_one], by (repeat (first | with_reducible exact Below.refl _ _ | with_reducible assumption | with_reducible refine Below.alloc ?_ (by first | (simp; done) | (simp; omega) | omega) _ | with_reducible refine Below.setCell ?_ (by first | (simp; done) | (simp; omega) | omega) _ | with_reducible refine Below.drew ?_ | with_reducible refine below_drewN ?_ _)), ⟨by simp [go_sem], by simp [go_sem], by simp [go_sem], by simp [go_sem]⟩, by simp, World.ownsRow_nil _ _ _ _⟩
  case round =>
    obtain ⟨k, hk, rfl, hb, ⟨r0, r1, f0, f1⟩, hws, HO⟩ := hrel
    have hq := Int.ediv_nonneg Y0 (Int.le_of_lt (bp_pos k))
    have hq2 : Y / bp k ≤ Y := Int.ediv_le_self _ Y0
    by_cases hc : 0 < Y / bp k
    · have hk2 : k < 3 := by
        rcases Nat.lt_or_ge k 3 with q | q
        · exact q
        · have := Int.ediv_eq_zero_of_lt Y0 (Int.lt_of_lt_of_le H3.out (bp_mono q))
          omega
      have HK := Lib.hid (intsV_s k (dg Y))
      have HZ : Hid (dg Y k = Y / bp k % 1000000000) := rfl
      have HE := Lib.hid (div_bp_s Y k)
      generalize dg Y k = Z at *
      generalize hQn : Y / bp (k + 1) = Q at *
      have HQn := Lib.hid hQn
      clear hQn
      generalize Y / bp k = X at *
      have v3 : X.tmod 1000000000 = Z := by rw [Int.tmod_eq_emod_of_nonneg hq, HZ.out]
      have v4 : X.tdiv 1000000000 = Q := by rw [Int.tdiv_eq_ediv_of_nonneg hq, HE.out]
      have v5 : IntKind.i64.wrap Q = Q := IntWalk.i64_in _ (by have := HE.out; omega)
      have hm : Q.toNat < X.toNat := by have := HE.out; omega
      go_wp2_with (first
        | (at_builtin; go_loud (refine wpList_append_own_at _ rfl _ _ 84 rfl (w.heap.size + 1) 3 i0 _ 1 8 undInts hi0 hz0 hz1 hz2 rfl (by decide) u4 _ _ rfl (HO.out.alloc _) ⟨wr.heap.size, 0, none⟩ 1 1 [.int .i64 Z] rfl rfl (by simpa using news1 wr _ _) (by simp [Value.oneCell']) (by unfold maxLen; omega) (by omega) (by simp; omega) ?_; intro v' w5 hown' hgrow hnil hloc; have HO5 := Lib.hid hown'; have HG5 := Lib.hid hgrow; clear hown' hgrow hnil hloc))
        | fail)
      go_roundw
      case rel =>
        have hB5 : Below (w.heap.size + 1) wr w5 := by
          first
            | exact ((Below.refl (w.heap.size + 1) wr).alloc hws _).grown HG5.out (by simp; omega) (fun k h => (HO.out.lt k h).1)
            | exact (((Below.refl (w.heap.size + 1) wr).alloc hws _).drew).grown HG5.out (by simp; omega) (fun k h => (HO.out.lt k h).1)
        have hs5 := hB5.size
        refine ⟨k + 1, by omega, by rw [HQn.out], hb.trans (hB5.mono (by omega)), ⟨(hB5.cell (p := ⟨w.heap.size, 0, none⟩) (by show w.heap.size < _; omega)).trans r0, (hB5.cell (p := ⟨w.heap.size, 1, none⟩) (by show w.heap.size < _; omega)).trans r1, (hB5.frozen (p := ⟨w.heap.size, 0, none⟩) (by show w.heap.size < _; omega)).trans f0, (hB5.frozen (p := ⟨w.heap.size, 1, none⟩) (by show w.heap.size < _; omega)).trans f1⟩, by omega, ?_⟩
        show w5.ownsRow _ _ _ _ _ _
        rw [HK.out]
        exact HO5.out
      case measure => simpa [intOf] using hm
    · have HN : Hid (Y < bp k) := by
        have e := Int.mul_ediv_add_emod Y (bp k)
        have m := Int.emod_lt_of_pos Y (bp_pos k)
        have h0 : Y / bp k = 0 := by omega
        rw [h0] at e
        exact (by omega : Y < bp k)
      obtain ⟨e5, D5, G5⟩ := own_dr HO.out
      clear HO
      generalize sA u4 = A5 at *
      generalize sC u4 = C5 at *
      subst e5
      have HD5 := Lib.hid D5
      have HL := Lib.hid (ln_le Y0 H60.out HN.out)
      have HG := Lib.hid G5
      clear D5 G5
      generalize Y / bp k = X at *
      go_wp2_with (first
        | (go_at_call 141; (with_reducible refine Calls.mono (HW _ A5 k C5 (by omega) HN.out HD5.out).out ?_); rintro e w1 ⟨rfl, hb1⟩; have HD6 := Lib.hid (HD5.out.below hb1); have B1 := Lib.hid (thenD hb hb1); have q0 := keep hb1 r0; have q1 := keep hb1 r1; have h0 := (hb1.frozen (p := ⟨w.heap.size, 0, none⟩) (by first | (simp; done) | (simp; omega) | omega)).trans f0; have h1 := (hb1.frozen (p := ⟨w.heap.size, 1, none⟩) (by first | (simp; done) | (simp; omega) | omega)).trans f1; clear hb1)
        | fail)
      refine bodyPost_ret (v := .agg #[.int .i64 sv, .slice A5 (ln Y) C5]) (by simp [results, Tryz.results104, go_sem, *]) rfl ⟨_, _, rfl, ?_, ?_⟩
      · exact ⟨dr_set (dr_set (HD6.out.less HL.out) HG.out _ _) HG.out _ _, fun g e => Nat.le_of_succ_le (HG.out g e)⟩
      · have B := B1.out
        (repeat (first | with_reducible exact Below.refl _ _ | with_reducible assumption | with_reducible refine Below.alloc ?_ (by first | (simp; done) | (simp; omega) | omega) _ | with_reducible refine Below.setCell ?_ (by first | (simp; done) | (simp; omega) | omega) _ | with_reducible refine Below.drew ?_ | with_reducible refine below_drewN ?_ _))
set_option maxRecDepth 100000 in
set_option maxHeartbeats 2000000 in
theorem wideOf_pos (Y : Int) (w : World) (Y0 : 0 ≤ Y) (Y1 : Y < bp 3) (Y2 : Y ≤ 9223372036854775807) :
    Calls Tryz.prog 104 #[.int .i64 Y] w fun e w' => ∃ A c, e = .returned (.agg #[.int .i64 (if Y = 0 then 0 else 1), .slice A (ln Y) c]) ∧ DN w w' A (ln Y) c Y ∧ Below w.heap.size w w' := by
  have u0 : ¬ Y < 0 := by omega
  have HW := fun W A5 n5 C5 h5 (hN : Y < bp n5) hW => Lib.hid (wideOf_any (1) A5 n5 C5 Y W h5 Y0 hN hW)
  generalize (if Y = 0 then (0 : Int) else 1) = sv at *
  have H60 := Lib.hid (show Y < bp 60 from Int.lt_of_lt_of_le Y1 (bp_mono (by decide)))
  have H3 := Lib.hid Y1
  clear Y1
  obtain ⟨i0, hi0, hz0, hz1, hz2⟩ := info_parts infoInt
  go_enter Tryz.func104, Tryz.ntmps104
  go_wp2_with fail
  go_loopw [0, 4] (fun s0 s4 wr => ∃ k : Nat, k ≤ 3 ∧ s0 = .int .i64 (Y / bp k) ∧ Below w.heap.size w wr ∧ (wr.cell? ⟨w.heap.size, 0, none⟩ = some (.int .i64 0) ∧ wr.cell? ⟨w.heap.size, 1, none⟩ = some (.slice none 0 0) ∧ wr.frozen? ⟨w.heap.size, 0, none⟩ = false ∧ wr.frozen? ⟨w.heap.size, 1, none⟩ = false) ∧ w.heap.size + 1 ≤ wr.heap.size ∧ Hid (wr.ownsRow (w.heap.size + 1) 3 1 s4 k (intsV k (dg Y)))) (fun i _ _ => (intOf i).toNat)
  case atStart => exact ⟨0, by omega, by rw [bp_0, Int.ediv_one], by (repeat (first | with_reducible exact Below.refl _ _ | with_reducible assumption | with_reducible refine Below.alloc ?_ (by first | (simp; done) | (simp; omega) | omega) _ | with_reducible refine Below.setCell ?_ (by first | (simp; done) | (simp; omega) | omega) _ | with_reducible refine Below.drew ?_ | with_reducible refine below_drewN ?_ _)), ⟨by simp [go_sem], by simp [go_sem], by simp [go_sem], by simp [go_sem]⟩, by simp, World.ownsRow_nil _ _ _ _⟩
  case round =>
    obtain ⟨k, hk, rfl, hb, ⟨r0, r1, f0, f1⟩, hws, HO⟩ := hrel
    have hq := Int.ediv_nonneg Y0 (Int.le_of_lt (bp_pos k))
    have hq2 : Y / bp k ≤ Y := Int.ediv_le_self _ Y0
    by_cases hc : 0 < Y / bp k
    · have hk2 : k < 3 := by
        rcases Nat.lt_or_ge k 3 with q | q
        · exact q
        · have := Int.ediv_eq_zero_of_lt Y0 (Int.lt_of_lt_of_le H3.out (bp_mono q))
          omega
      have HK := Lib.hid (intsV_s k (dg Y))
      have HZ : Hid (dg Y k = Y / bp k % 1000000000) := rfl
      have HE := Lib.hid (div_bp_s Y k)
      generalize dg Y k = Z at *
      generalize hQn : Y / bp (k + 1) = Q at *
      have HQn := Lib.hid hQn
      clear hQn
      generalize Y / bp k = X at *
      have v3 : X.tmod 1000000000 = Z := by rw [Int.tmod_eq_emod_of_nonneg hq, HZ.out]
      have v4 : X.tdiv 1000000000 = Q := by rw [Int.tdiv_eq_ediv_of_nonneg hq, HE.out]
      have v5 : IntKind.i64.wrap Q = Q := IntWalk.i64_in _ (by have := HE.out; omega)
      have hm : Q.toNat < X.toNat := by have := HE.out; omega
      go_wp2_with (first
        | (at_builtin; go_loud (refine wpList_append_own_at _ rfl _ _ 84 rfl (w.heap.size + 1) 3 i0 _ 1 8 undInts hi0 hz0 hz1 hz2 rfl (by decide) u4 _ _ rfl (HO.out.alloc _) ⟨wr.heap.size, 0, none⟩ 1 1 [.int .i64 Z] rfl rfl (by simpa using news1 wr _ _) (by simp [Value.oneCell']) (by unfold maxLen; omega) (by omega) (by simp; omega) ?_; intro v' w5 hown' hgrow hnil hloc; have HO5 := Lib.hid hown'; have HG5 := Lib.hid hgrow; clear hown' hgrow hnil hloc))
        | fail)
      go_roundw
      case rel =>
        have hB5 : Below (w.heap.size + 1) wr w5 := by
          first
            | exact ((Below.refl (w.heap.size + 1) wr).alloc hws _).grown HG5.out (by simp; omega) (fun k h => (HO.out.lt k h).1)
            | exact (((Below.refl (w.heap.size + 1) wr).alloc hws _).drew).grown HG5.out (by simp; omega) (fun k h => (HO.out.lt k h).1)
        have hs5 := hB5.size
        refine ⟨k + 1, by omega, by rw [HQn.out], hb.trans (hB5.mono (by omega)), ⟨(hB5.cell (p := ⟨w.heap.size, 0, none⟩) (by show w.heap.size < _; omega)).trans r0, (hB5.cell (p := ⟨w.heap.size, 1, none⟩) (by show w.heap.size < _; omega)).trans r1, (hB5.frozen (p := ⟨w.heap.size, 0, none⟩) (by show w.heap.size < _; omega)).trans f0, (hB5.frozen (p := ⟨w.heap.size, 1, none⟩) (by show w.heap.size < _; omega)).trans f1⟩, by omega, ?_⟩
        show w5.ownsRow _ _ _ _ _ _
        rw [HK.out]
        exact HO5.out
      case measure => simpa [intOf] using hm
    · have HN : Hid (Y < bp k) := by
        have e := Int.mul_ediv_add_emod Y (bp k)
        have m := Int.emod_lt_of_pos Y (bp_pos k)
        have h0 : Y / bp k = 0 := by omega
        rw [h0] at e
        exact (by omega : Y < bp k)
      obtain ⟨e5, D5, G5⟩ := own_dr HO.out
      clear HO
      generalize sA u4 = A5 at *
      generalize sC u4 = C5 at *
      subst e5
      have HD5 := Lib.hid D5
      have HL := Lib.hid (ln_le Y0 H60.out HN.out)
      have HG := Lib.hid G5
      clear D5 G5
      generalize Y / bp k = X at *
      go_wp2_with (first
        | (go_at_call 141; (with_reducible refine Calls.mono (HW _ A5 k C5 (by omega) HN.out HD5.out).out ?_); rintro e w1 ⟨rfl, hb1⟩; have HD6 := Lib.hid (HD5.out.below hb1); have B1 := Lib.hid (thenD hb hb1); have q0 := keep hb1 r0; have q1 := keep hb1 r1; have h0 := (hb1.frozen (p := ⟨w.heap.size, 0, none⟩) (by first | (simp; done) | (simp; omega) | omega)).trans f0; have h1 := (hb1.frozen (p := ⟨w.heap.size, 1, none⟩) (by first | (simp; done) | (simp; omega) | omega)).trans f1; clear hb1)
        | fail)
      refine bodyPost_ret (v := .agg #[.int .i64 sv, .slice A5 (ln Y) C5]) (by simp [results, Tryz.results104, go_sem, *]) rfl ⟨_, _, rfl, ?_, ?_⟩
      · exact ⟨dr_set (dr_set (HD6.out.less HL.out) HG.out _ _) HG.out _ _, fun g e => Nat.le_of_succ_le (HG.out g e)⟩
      · have B := B1.out
        (repeat (first | with_reducible exact Below.refl _ _ | with_reducible assumption | with_reducible refine Below.alloc ?_ (by first | (simp; done) | (simp; omega) | omega) _ | with_reducible refine Below.setCell ?_ (by first | (simp; done) | (simp; omega) | omega) _ | with_reducible refine Below.drew ?_ | with_reducible refine below_drewN ?_ _))
theorem WideOf_any (x : Int) (w : World) (h1 : -9223372036854775807 ≤ x) (h2 : x ≤ 9223372036854775807) :
    Calls Tryz.prog 104 #[.int .i64 x] w fun e w' => ∃ A c, e = .returned (WV x A c) ∧ DN w w' A (ln (siz x)) c (siz x) ∧ Below w.heap.size w w' := by
  rcases Int.lt_or_le x 0 with hx | hx
  · have e : siz x = -x := by unfold siz; omega
    have e2 : (if -x = 0 then (0 : Int) else -1) = sgn x := by rw [if_neg (by omega), sgn_n hx]
    have := wideOf_neg x (-x) w hx rfl (by omega) (by rw [bp_3]; omega) (by omega)
    rw [e2] at this
    unfold WV
    rw [e]
    exact this
  · have e : siz x = x := by unfold siz; omega
    have e2 : (if x = 0 then (0 : Int) else 1) = sgn x := by
      by_cases z : x = 0
      · rw [z]; rfl
      · rw [if_neg z, sgn_p (by omega)]
    have := wideOf_pos x w hx (by rw [bp_3]; omega) (by omega)
    rw [e2] at this
    unfold WV
    rw [e]
    exact this
end Go.Proofs.YtnfoagcpgegldaaGreat
