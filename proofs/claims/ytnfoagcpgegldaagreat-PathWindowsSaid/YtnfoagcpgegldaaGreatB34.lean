/- Helpers: the digits of an int (base.WideOf). -/
import Derived.Test.YtnfoagcpgegldaaGreatB33
namespace Go.Proofs.YtnfoagcpgegldaaGreat
open Go.RowKit Go.Shelf Go.Sort
attribute [local go_sem] idx3_0 idx3_1 idx3_2 old1 fro1 old2 fro2 old3 fro3 old4 fro4 old5 fro5 old6 fro6 old7 fro7 old8 fro8 old9 fro9 old10 fro10 old11 fro11 old12 fro12
/-- A number as a sign and digits. -/
def WV (N : Int) (A : Option Addr) (c : Nat) : Value := .agg #[.int .i64 (sgn N), .slice A (ln (siz N)) c]
theorem dr_set {w : World} {A : Option Addr} {n c B : Nat} {N : Int} (h : DR w A n c N) (hg : ∀ g, A = some ⟨g, 0, none⟩ → B < g) (o : Nat) (u : Value) : DR (w.setCell ⟨B, o, none⟩ u) A n c N :=
  ⟨h.1, fun g e => ⟨by have := (h.2 g e).1; simpa using this, fun i hi => cell_ne ((h.2 g e).2 i hi) (fun e1 _ => by have := hg g e; omega)⟩⟩
theorem ln_le {N : Int} {k : Nat} (h0 : 0 ≤ N) (h : N < bp 60) (hk : N < bp k) : ln N ≤ k := by
  rcases (ln_spec h0 h).2.1 with z | z
  · omega
  · rcases Nat.lt_or_ge k (ln N) with q | q
    · have := bp_mono (show k ≤ ln N - 1 by omega)
      omega
    · exact q
theorem bp_3 : bp 3 = 1000000000000000000000000000 := by decide
set_option maxRecDepth 100000 in
set_option maxHeartbeats 2000000 in
theorem wideOf_neg (x Y : Int) (w : World) (hx : x < 0) (hY : Y = -x) (Y0 : 0 ≤ Y) (Y1 : Y < bp 3) (Y2 : Y ≤ 9223372036854775807) :
    Calls Tryz.prog 104 #[.int .i64 x] w fun e w' => ∃ A c, e = .returned (.agg #[.int .i64 (if Y = 0 then 0 else -1), .slice A (ln Y) c]) ∧ DN w w' A (ln Y) c Y ∧ Below w.heap.size w w' := by
  have u0 : IntKind.i64.wrap (-x) = Y := by rw [← hY]; exact IntWalk.i64_in _ (by omega)
  clear hY
  have HW := fun W A5 n5 C5 h5 (hN : Y < bp n5) hW => Lib.hid (wideOf_any (-1) A5 n5 C5 Y W h5 Y0 hN hW)
  generalize (if Y = 0 then (0 : Int) else -1) = sv at *
  have H60 := Lib.hid (show Y < bp 60 from Int.lt_of_lt_of_le Y1 (bp_mono (by decide)))
  have H3 := Lib.hid Y1
  clear Y1
  obtain ⟨i0, hi0, hz0, hz1, hz2⟩ := info_parts infoInt
  go_enter Tryz.func104, Tryz.ntmps104
  go_wp2_with fail
  go_loopw [0, 4] (fun s0 s4 wr => ∃ k : Nat, k ≤ 3 ∧ s0 = .int .i64 (Y / bp k) ∧ Below w.heap.size w wr ∧ (wr.cell? ⟨w.heap.size, 0, none⟩ = some (.int .i64 0) ∧ wr.cell? ⟨w.heap.size, 1, none⟩ = some (.slice none 0 0) ∧ wr.frozen? ⟨w.heap.size, 0, none⟩ = false ∧ wr.frozen? ⟨w.heap.size, 1, none⟩ = false) ∧ w.heap.size + 1 ≤ wr.heap.size ∧ Hid (wr.ownsRow (w.heap.size + 1) 3 1 s4 k (intsV k (dg Y)))) (fun i _ _ => (intOf i).toNat)
  case atStart => exact ⟨0, by omega, by rw [bp_0, Int.ediv_one], by (repeat (first | with_reducible exact Below.refl _ _ | with_reducible assumption | with_reducible refine Below.alloc ?_ (by first | (simp; done) | (simp; omega) | omega) _ | with_reducible refine Below.setCell ?_ (by first | (simp; done) | (simp; omega) | omega) _ | with_reducible refine Below.drew ?_ | with_reducible refine below_drewN ?_ _)), ⟨by simp [go_sem], by simp [go_sem], by simp [go_sem], by simp [go_sem]⟩, by simp, World.ownsRow_nil _ _ _ _⟩
  case round =>
    obtain ⟨k, hk, rfl, hb, ⟨r0, r1, f0, f1⟩, hws, HO⟩ := hrel
    have hq := Int.ediv_nonneg Y0 (Int.le_of_lt (bp_pos k))
    have hq2 : Y / bp k ≤ Y := Int.ediv_le_self _ Y0
    by_cases hc : 0 < Y / bp k
    · have hk2 : k < 3 := by
        rcases Nat.lt_or_ge k 3 with q | q
        · exact q
        · have := Int.ediv_eq_zero_of_lt Y0 (Int.lt_of_lt_of_le H3.out (bp_mono q))
          omega
      have HK := Lib.hid (intsV_s k (dg Y))
      have HZ : Hid (dg Y k = Y / bp k % 1000000000) := rfl
      have HE := Lib.hid (div_bp_s Y k)
      generalize dg Y k = Z at *
      generalize hQn : Y / bp (k + 1) = Q at *
      have HQn := Lib.hid hQn
      clear hQn
      generalize Y / bp k = X at *
      have v3 : X.tmod 1000000000 = Z := by rw [Int.tmod_eq_emod_of_nonneg hq, HZ.out]
      have v4 : X.tdiv 1000000000 = Q := by rw [Int.tdiv_eq_ediv_of_nonneg hq, HE.out]
      have v5 : IntKind.i64.wrap Q = Q := IntWalk.i64_in _ (by have := HE.out; omega)
      have hm : Q.toNat < X.toNat := by have := HE.out; omega
      go_wp2_with (first
        | (at_builtin; go_loud (refine wpList_append_own_at _ rfl _ _ 84 rfl (w.heap.size + 1) 3 i0 _ 1 8 undInts hi0 hz0 hz1 hz2 rfl (by decide) u4 _ _ rfl (HO.out.alloc _) ⟨wr.heap.size, 0, none⟩ 1 1 [.int .i64 Z] rfl rfl (by simpa using news1 wr _ _) (by simp [Value.oneCell']) (by unfold maxLen; omega) (by omega) (by simp; omega) ?_; intro v' w5 hown' hgrow hnil hloc; have HO5 := Lib.hid hown'; have HG5 := Lib.hid hgrow; clear hown' hgrow hnil hloc))
        | fail)
      go_roundw
      case rel =>
        have hB5 : Below (w.heap.size + 1) wr w5 := by
          first
            | exact ((Below.refl (w.heap.size + 1) wr).alloc hws _).grown HG5.out (by simp; omega) (fun k h => (HO.out.lt k h).1)
            | exact (((Below.refl (w.heap.size + 1) wr).alloc hws _).drew).grown HG5.out (by simp; omega) (fun k h => (HO.out.lt k h).1)
        have hs5 := hB5.size
        refine ⟨k + 1, by omega, by rw [HQn.out], hb.trans (hB5.mono (by omega)), ⟨(hB5.cell (p := ⟨w.heap.size, 0, none⟩) (by show w.heap.size < _; omega)).trans r0, (hB5.cell (p := ⟨w.heap.size, 1, none⟩) (by show w.heap.size < _; omega)).trans r1, (hB5.frozen (p := ⟨w.heap.size, 0, none⟩) (by show w.heap.size < _; omega)).trans f0, (hB5.frozen (p := ⟨w.heap.size, 1, none⟩) (by show w.heap.size < _; omega)).trans f1⟩, by omega, ?_⟩
        show w5.ownsRow _ _ _ _ _ _
        rw [HK.out]
        exact HO5.out
      case measure => simpa [intOf] using hm
    · have HN : Hid (Y < bp k) := by
        have e := Int.mul_ediv_add_emod Y (bp k)
        have m := Int.emod_lt_of_pos Y (bp_pos k)
        have h0 : Y / bp k = 0 := by omega
        rw [h0] at e
        exact (by omega : Y < bp k)
      obtain ⟨e5, D5, G5⟩ := own_dr HO.out
      clear HO
      generalize sA u4 = A5 at *
      generalize sC u4 = C5 at *
      subst e5
      have HD5 := Lib.hid D5
      have HL := Lib.hid (ln_le Y0 H60.out HN.out)
      have HG := Lib.hid G5
      clear D5 G5
      generalize Y / bp k = X at *
      go_wp2_with (first
        | (go_at_call 141; (with_reducible refine Calls.mono (HW _ A5 k C5 (by omega) HN.out HD5.out).out ?_); rintro e w1 ⟨rfl, hb1⟩; have HD6 := Lib.hid (HD5.out.below hb1); have B1 := Lib.hid (thenD hb hb1); have q0 := keep hb1 r0; have q1 := keep hb1 r1; have h0 := (hb1.frozen (p := ⟨w.heap.size, 0, none⟩) (by first | (simp; done) | (simp; omega) | omega)).trans f0; have h1 := (hb1.frozen (p := ⟨w.heap.size, 1, none⟩) (by first | (simp; done) | (simp; omega) | omega)).trans f1; clear hb1)
        | fail)
      refine bodyPost_ret (v := .agg #[.int .i64 sv, .slice A5 (ln Y) C5]) (by simp [results, Tryz.results104, go_sem, *]) rfl ⟨_, _, rfl, ?_, ?_⟩
      · exact ⟨dr_set (dr_set (HD6.out.less HL.out) HG.out _ _) HG.out _ _, fun g e => Nat.le_of_succ_le (HG.out g e)⟩
      · have B := B1.out
        (repeat (first | with_reducible exact Below.refl _ _ | with_reducible assumption | with_reducible refine Below.alloc ?_ (by first | (simp; done) | (simp; omega) | omega) _ | with_reducible refine Below.setCell ?_ (by first | (simp; done) | (simp; omega) | omega) _ | with_reducible refine Below.drew ?_ | with_reducible refine below_drewN ?_ _))
set_option maxRecDepth 100000 in
set_option maxHeartbeats 2000000 in
theorem wideOf_pos (Y : Int) (w : World) (Y0 : 0 ≤ Y) (Y1 : Y < bp 3) (Y2 : Y ≤ 9223372036854775807) :
    Calls Tryz.prog 104 #[.int .i64 Y] w fun e w' => ∃ A c, e = .returned (.agg #[.int .i64 (if Y = 0 then 0 else 1), .slice A (ln Y) c]) ∧ DN w w' A (ln Y) c Y ∧ Below w.heap.size w w' := by
  have u0 : ¬ Y < 0 := by omega
  have HW := fun W A5 n5 C5 h5 (hN : Y < bp n5) hW => Lib.hid (wideOf_any (1) A5 n5 C5 Y W h5 Y0 hN hW)
  generalize (if Y = 0 then (0 : Int) else 1) = sv at *
  have H60 := Lib.hid (show Y < bp 60 from Int.lt_of_lt_of_le Y1 (bp_mono (by decide)))
  have H3 := Lib.hid Y1
  clear Y1
  obtain ⟨i0, hi0, hz0, hz1, hz2⟩ := info_parts infoInt
  go_enter Tryz.func104, Tryz.ntmps104
  go_wp2_with fail
  go_loopw [0, 4] (fun s0 s4 wr => ∃ k : Nat, k ≤ 3 ∧ s0 = .int .i64 (Y / bp k) ∧ Below w.heap.size w wr ∧ (wr.cell? ⟨w.heap.size, 0, none⟩ = some (.int .i64 0) ∧ wr.cell? ⟨w.heap.size, 1, none⟩ = some (.slice none 0 0) ∧ wr.frozen? ⟨w.heap.size, 0, none⟩ = false ∧ wr.frozen? ⟨w.heap.size, 1, none⟩ = false) ∧ w.heap.size + 1 ≤ wr.heap.size ∧ Hid (wr.ownsRow (w.heap.size + 1) 3 1 s4 k (intsV k (dg Y)))) (fun i _ _ => (intOf i).toNat)
  case atStart => exact ⟨0, by omega, by rw [bp_0, Int.ediv_one], by (repeat (first | with_reducible exact Below.refl _ _ | with_reducible assumption | with_reducible refine Below.alloc ?_ (by first | (simp; done) | (simp; omega) | omega) _ | with_reducible refine Below.setCell ?_ (by first | (simp; done) | (simp; omega) | omega) _ | with_reducible refine Below.drew ?_ | with_reducible refine below_drewN ?_ _)), ⟨by simp [go_sem], by simp [go_sem], by simp [go_sem], by simp [go_sem]⟩, by simp, World.ownsRow_nil _ _ _ _⟩
  case round =>
    obtain ⟨k, hk, rfl, hb, ⟨r0, r1, f0, f1⟩, hws, HO⟩ := hrel
    have hq := Int.ediv_nonneg Y0 (Int.le_of_lt (bp_pos k))
    have hq2 : Y / bp k ≤ Y := Int.ediv_le_self _ Y0
    by_cases hc : 0 < Y / bp k
    · have hk2 : k < 3 := by
        rcases Nat.lt_or_ge k 3 with q | q
        · exact q
        · have := Int.ediv_eq_zero_of_lt Y0 (Int.lt_of_lt_of_le H3.out (bp_mono q))
          omega
      have HK := Lib.hid (intsV_s k (dg Y))
      have HZ : Hid (dg Y k = Y / bp k % 1000000000) := rfl
      have HE := Lib.hid (div_bp_s Y k)
      generalize dg Y k = Z at *
      generalize hQn : Y / bp (k + 1) = Q at *
      have HQn := Lib.hid hQn
      clear hQn
      generalize Y / bp k = X at *
      have v3 : X.tmod 1000000000 = Z := by rw [Int.tmod_eq_emod_of_nonneg hq, HZ.out]
      have v4 : X.tdiv 1000000000 = Q := by rw [Int.tdiv_eq_ediv_of_nonneg hq, HE.out]
      have v5 : IntKind.i64.wrap Q = Q := IntWalk.i64_in _ (by have := HE.out; omega)
      have hm : Q.toNat < X.toNat := by have := HE.out; omega
      go_wp2_with (first
        | (at_builtin; go_loud (refine wpList_append_own_at _ rfl _ _ 84 rfl (w.heap.size + 1) 3 i0 _ 1 8 undInts hi0 hz0 hz1 hz2 rfl (by decide) u4 _ _ rfl (HO.out.alloc _) ⟨wr.heap.size, 0, none⟩ 1 1 [.int .i64 Z] rfl rfl (by simpa using news1 wr _ _) (by simp [Value.oneCell']) (by unfold maxLen; omega) (by omega) (by simp; omega) ?_; intro v' w5 hown' hgrow hnil hloc; have HO5 := Lib.hid hown'; have HG5 := Lib.hid hgrow; clear hown' hgrow hnil hloc))
        | fail)
      go_roundw
      case rel =>
        have hB5 : Below (w.heap.size + 1) wr w5 := by
          first
            | exact ((Below.refl (w.heap.size + 1) wr).alloc hws _).grown HG5.out (by simp; omega) (fun k h => (HO.out.lt k h).1)
            | exact (((Below.refl (w.heap.size + 1) wr).alloc hws _).drew).grown HG5.out (by simp; omega) (fun k h => (HO.out.lt k h).1)
        have hs5 := hB5.size
        refine ⟨k + 1, by omega, by rw [HQn.out], hb.trans (hB5.mono (by omega)), ⟨(hB5.cell (p := ⟨w.heap.size, 0, none⟩) (by show w.heap.size < _; omega)).trans r0, (hB5.cell (p := ⟨w.heap.size, 1, none⟩) (by show w.heap.size < _; omega)).trans r1, (hB5.frozen (p := ⟨w.heap.size, 0, none⟩) (by show w.heap.size < _; omega)).trans f0, (hB5.frozen (p := ⟨w.heap.size, 1, none⟩) (by show w.heap.size < _; omega)).trans f1⟩, by omega, ?_⟩
        show w5.ownsRow _ _ _ _ _ _
        rw [HK.out]
        exact HO5.out
      case measure => simpa [intOf] using hm
    · have HN : Hid (Y < bp k) := by
        have e := Int.mul_ediv_add_emod Y (bp k)
        have m := Int.emod_lt_of_pos Y (bp_pos k)
        have h0 : Y / bp k = 0 := by omega
        rw [h0] at e
        exact (by omega : Y < bp k)
      obtain ⟨e5, D5, G5⟩ := own_dr HO.out
      clear HO
      generalize sA u4 = A5 at *
      generalize sC u4 = C5 at *
      subst e5
      have HD5 := Lib.hid D5
      have HL := Lib.hid (ln_le Y0 H60.out HN.out)
      have HG := Lib.hid G5
      clear D5 G5
      generalize Y / bp k = X at *
      go_wp2_with (first
        | (go_at_call 141; (with_reducible refine Calls.mono (HW _ A5 k C5 (by omega) HN.out HD5.out).out ?_); rintro e w1 ⟨rfl, hb1⟩; have HD6 := Lib.hid (HD5.out.below hb1); have B1 := Lib.hid (thenD hb hb1); have q0 := keep hb1 r0; have q1 := keep hb1 r1; have h0 := (hb1.frozen (p := ⟨w.heap.size, 0, none⟩) (by first | (simp; done) | (simp; omega) | omega)).trans f0; have h1 := (hb1.frozen (p := ⟨w.heap.size, 1, none⟩) (by first | (simp; done) | (simp; omega) | omega)).trans f1; clear hb1)
        | fail)
      refine bodyPost_ret (v := .agg #[.int .i64 sv, .slice A5 (ln Y) C5]) (by simp [results, Tryz.results104, go_sem, *]) rfl ⟨_, _, rfl, ?_, ?_⟩
      · exact ⟨dr_set (dr_set (HD6.out.less HL.out) HG.out _ _) HG.out _ _, fun g e => Nat.le_of_succ_le (HG.out g e)⟩
      · have B := B1.out
        (repeat (first | with_reducible exact Below.refl _ _ | with_reducible assumption | with_reducible refine Below.alloc ?_ (by first | (simp; done) | (simp; omega) | omega) _ | with_reducible refine Below.setCell ?_ (by first | (simp; done) | (simp; omega) | omega) _ | with_reducible refine Below.drew ?_ | with_reducible refine below_drewN ?_ _))
theorem WideOf_any (x : Int) (w : World) (h1 : -9223372036854775807 ≤ x) (h2 : x ≤ 9223372036854775807) :
    Calls Tryz.prog 104 #[.int .i64 x] w fun e w' => ∃ A c, e = .returned (WV x A c) ∧ DN w w' A (ln (siz x)) c (siz x) ∧ Below w.heap.size w w' := by
  rcases Int.lt_or_le x 0 with hx | hx
  · have e : siz x = -x := by unfold siz; omega
    have e2 : (if -x = 0 then (0 : Int) else -1) = sgn x := by rw [if_neg (by omega), sgn_n hx]
    have := wideOf_neg x (-x) w hx rfl (by omega) (by rw [bp_3]; omega) (by omega)
    rw [e2] at this
    unfold WV
    rw [e]
    exact this
  · have e : siz x = x := by unfold siz; omega
    have e2 : (if x = 0 then (0 : Int) else 1) = sgn x := by
      by_cases z : x = 0
      · rw [z]; rfl
      · rw [if_neg z, sgn_p (by omega)]
    have := wideOf_pos x w hx (by rw [bp_3]; omega) (by omega)
    rw [e2] at this
    unfold WV
    rw [e]
    exact this
end Go.Proofs.YtnfoagcpgegldaaGreat
namespace Go.Proofs.YtnfoagcpgegldaaGreat
open Go.RowKit Go.Shelf Go.Sort
attribute [local go_sem] idx3_0 idx3_1 idx3_2 old1 fro1 old2 fro2 old3 fro3 old4 fro4 old5 fro5 old6 fro6 old7 fro7 old8 fro8 old9 fro9 old10 fro10 old11 fro11 old12 fro12
theorem dr_ne {w : World} {A : Option Addr} {n c B : Nat} {N : Int} (h : DR w A n c N) (hg : ∀ g, A = some ⟨g, 0, none⟩ → g ≠ B) (o : Nat) (u : Value) : DR (w.setCell ⟨B, o, none⟩ u) A n c N :=
  ⟨h.1, fun g e => ⟨by have := (h.2 g e).1; simpa using this, fun i hi => cell_ne ((h.2 g e).2 i hi) (fun e1 _ => by have := hg g e; omega)⟩⟩
set_option maxRecDepth 100000 in
set_option maxHeartbeats 800000 in
theorem wideNeg_any (s : Int) (A : Option Addr) (n c : Nat) (w : World) (h1 : -1 ≤ s) (h2 : s ≤ 1) :
    Calls Tryz.prog 145 #[.agg #[.int .i64 s, .slice A n c]] w fun e w' => e = .returned (.agg #[.int .i64 (-s), .slice A n c]) ∧ Below w.heap.size w w' := by
  have u : IntKind.i64.wrap (-s) = -s := IntWalk.i64_in _ (by omega)
  go_enter Tryz.func145, Tryz.ntmps145
  go_wp2_with fail
  refine bodyPost_ret (v := .agg #[.int .i64 (-s), .slice A n c]) (by simp [results, Tryz.results145, go_sem]) rfl ⟨rfl, by (repeat (first | with_reducible exact Below.refl _ _ | with_reducible assumption | with_reducible refine Below.alloc ?_ (by first | (simp; done) | (simp; omega) | omega) _ | with_reducible refine Below.setCell ?_ (by first | (simp; done) | (simp; omega) | omega) _ | with_reducible refine Below.drew ?_ | with_reducible refine below_drewN ?_ _))⟩
set_option maxRecDepth 100000 in
set_option maxHeartbeats 800000 in
theorem wadd_l (t : Int) (A B : Option Addr) (n c m c' : Nat) (w : World) :
    Calls Tryz.prog 106 #[.agg #[.int .i64 0, .slice A n c], .agg #[.int .i64 t, .slice B m c']] w fun e w' => e = .returned (.agg #[.int .i64 t, .slice B m c']) ∧ Below w.heap.size w w' := by
  go_enter Tryz.func106, Tryz.ntmps106
  go_wp2_with fail
  refine bodyPost_ret (v := .agg #[.int .i64 t, .slice B m c']) (by simp [results, Tryz.results106, go_sem]) rfl ⟨rfl, by (repeat (first | with_reducible exact Below.refl _ _ | with_reducible assumption | with_reducible refine Below.alloc ?_ (by first | (simp; done) | (simp; omega) | omega) _ | with_reducible refine Below.setCell ?_ (by first | (simp; done) | (simp; omega) | omega) _ | with_reducible refine Below.drew ?_ | with_reducible refine below_drewN ?_ _))⟩
set_option maxRecDepth 100000 in
set_option maxHeartbeats 800000 in
theorem wadd_r (s : Int) (A B : Option Addr) (n c m c' : Nat) (w : World) (hs : s ≠ 0) :
    Calls Tryz.prog 106 #[.agg #[.int .i64 s, .slice A n c], .agg #[.int .i64 0, .slice B m c']] w fun e w' => e = .returned (.agg #[.int .i64 s, .slice A n c]) ∧ Below w.heap.size w w' := by
  have g0 : (s == 0) = false := by simp [hs]
  go_enter Tryz.func106, Tryz.ntmps106
  go_wp2_with fail
  refine bodyPost_ret (v := .agg #[.int .i64 s, .slice A n c]) (by simp [results, Tryz.results106, go_sem]) rfl ⟨rfl, by (repeat (first | with_reducible exact Below.refl _ _ | with_reducible assumption | with_reducible refine Below.alloc ?_ (by first | (simp; done) | (simp; omega) | omega) _ | with_reducible refine Below.setCell ?_ (by first | (simp; done) | (simp; omega) | omega) _ | with_reducible refine Below.drew ?_ | with_reducible refine below_drewN ?_ _))⟩
set_option maxRecDepth 100000 in
set_option maxHeartbeats 4000000 in
theorem wadd_s (s t : Int) (A B : Option Addr) (c c' : Nat) (P Q : Int) (w : World) (P0 : 0 ≤ P) (P1 : P < bp 50) (Q0 : 0 ≤ Q) (Q1 : Q < bp 50) (hA : DR w A (ln P) c P) (hB : DR w B (ln Q) c' Q) (hs : s ≠ 0) (hst : s = t) :
    Calls Tryz.prog 106 #[.agg #[.int .i64 s, .slice A (ln P) c], .agg #[.int .i64 t, .slice B (ln Q) c']] w fun e w' => ∃ A' c2, e = .returned (.agg #[.int .i64 (if P + Q = 0 then 0 else s), .slice A' (ln (P + Q)) c2]) ∧ (DR w' A' (ln (P + Q)) c2 (P + Q) ∧ ∀ g, A' = some ⟨g, 0, none⟩ → w.heap.size + 1 + 1 < g) ∧ Below w.heap.size w w' := by
  subst hst
  have lP := ln_spec P0 (Int.lt_of_lt_of_le P1 (bp_mono (show 50 ≤ 60 by decide)))
  have lQ := ln_spec Q0 (Int.lt_of_lt_of_le Q1 (bp_mono (show 50 ≤ 60 by decide)))
  have nP := ln_le P0 (Int.lt_of_lt_of_le P1 (bp_mono (show 50 ≤ 60 by decide))) P1
  have nQ := ln_le Q0 (Int.lt_of_lt_of_le Q1 (bp_mono (show 50 ≤ 60 by decide))) Q1
  have X60 : P + Q < bp 60 := by
    have := bp_mono (show 51 ≤ 60 by decide)
    have : bp 51 = bp 50 * 1000000000 := bp_s 50
    have := bp_pos 50
    omega
  have X0 : 0 ≤ P + Q := by omega
  have HAD := fun W a b => Lib.hid (addDigits_any A B (ln P) (ln Q) c c' P Q W (by omega) (by omega) P0 lP.1 a Q0 lQ.1 b)
  have HW := fun W A1 k1 c1 (h1 : k1 ≤ 59) h2 h3 => Lib.hid (wideOf_any s A1 k1 c1 (P + Q) W (by omega) (by omega) h2 h3)
  generalize (if P + Q = 0 then (0 : Int) else s) = sv at *
  generalize P + Q = X at *
  have HA := Lib.hid hA
  have HB := Lib.hid hB
  have g0 : (s == 0) = false := by simp [hs]
  clear hA hB lP lQ hs P0 P1 Q0 Q1
  generalize ln P = n at *
  generalize ln Q = m at *
  go_enter Tryz.func106, Tryz.ntmps106
  go_wp2_with fail
  go_region_held3 (fun w' => w'.cell? ⟨w.heap.size, 0, none⟩ = some (.int .i64 s) ∧ w'.cell? ⟨w.heap.size, 1, none⟩ = some (.slice A n c) ∧ w'.cell? ⟨w.heap.size + 1, 0, none⟩ = some (.int .i64 s) ∧ w'.cell? ⟨w.heap.size + 1, 1, none⟩ = some (.slice B m c')) (simp [go_sem, *])
    (first
      | (go_at_call 142; (with_reducible refine Calls.mono (HAD _ (HA.out.below (show Below w.heap.size w _ by (repeat (first | with_reducible exact Below.refl _ _ | with_reducible assumption | with_reducible refine Below.alloc ?_ (by first | (simp; done) | (simp; omega) | omega) _ | with_reducible refine Below.setCell ?_ (by first | (simp; done) | (simp; omega) | omega) _ | with_reducible refine Below.drew ?_ | with_reducible refine below_drewN ?_ _)))) (HB.out.below (show Below w.heap.size w _ by (repeat (first | with_reducible exact Below.refl _ _ | with_reducible assumption | with_reducible refine Below.alloc ?_ (by first | (simp; done) | (simp; omega) | omega) _ | with_reducible refine Below.setCell ?_ (by first | (simp; done) | (simp; omega) | omega) _ | with_reducible refine Below.drew ?_ | with_reducible refine below_drewN ?_ _))))).out ?_); rintro e w1 ⟨A1, k1, c1, rfl, hk1, hn1, hd1, hb1⟩; have HK1 := Lib.hid hk1; have HN1 := Lib.hid hn1; have HD1 := Lib.hid hd1.1; have HF1 : Hid (∀ g, A1 = some ⟨g, 0, none⟩ → w.heap.size + 1 + 1 < g) := (fun g e => by have := hd1.2 g e; (try simp at this); omega); have HL : Hid (ln X ≤ k1) := ln_le X0 X60 hn1; clear hk1 hn1 hd1; have B1 := Lib.hid (thenD (show Below w.heap.size w _ by (repeat (first | with_reducible exact Below.refl _ _ | with_reducible assumption | with_reducible refine Below.alloc ?_ (by first | (simp; done) | (simp; omega) | omega) _ | with_reducible refine Below.setCell ?_ (by first | (simp; done) | (simp; omega) | omega) _ | with_reducible refine Below.drew ?_ | with_reducible refine below_drewN ?_ _))) hb1); have p0 := (hb1.cell (p := ⟨w.heap.size, 0, none⟩) (by first | (simp; done) | (simp; omega) | omega)).trans (show _ = some (.int .i64 s) by simp [go_sem]); have p1 := (hb1.cell (p := ⟨w.heap.size, 1, none⟩) (by first | (simp; done) | (simp; omega) | omega)).trans (show _ = some (.slice A n c) by simp [go_sem]); have p2 := (hb1.cell (p := ⟨w.heap.size + 1, 0, none⟩) (by first | (simp; done) | (simp; omega) | omega)).trans (show _ = some (.int .i64 s) by simp [go_sem]); have p3 := (hb1.cell (p := ⟨w.heap.size + 1, 1, none⟩) (by first | (simp; done) | (simp; omega) | omega)).trans (show _ = some (.slice B m c') by simp [go_sem]); have p4 := (hb1.cell (p := ⟨w.heap.size + 1 + 1, 0, none⟩) (by first | (simp; done) | (simp; omega) | omega)).trans (show _ = some (.int .i64 0) by simp [go_sem]); have p5 := (hb1.cell (p := ⟨w.heap.size + 1 + 1, 1, none⟩) (by first | (simp; done) | (simp; omega) | omega)).trans (show _ = some (.slice none 0 0) by simp [go_sem]); have f0 := (hb1.frozen (p := ⟨w.heap.size + 1 + 1, 0, none⟩) (by first | (simp; done) | (simp; omega) | omega)).trans (show _ = false by simp [go_sem]); have f1 := (hb1.frozen (p := ⟨w.heap.size + 1 + 1, 1, none⟩) (by first | (simp; done) | (simp; omega) | omega)).trans (show _ = false by simp [go_sem]); have hz1 := hb1.size; (try simp at hz1); clear hb1)
      | (go_at_call 141; (with_reducible refine Calls.mono (HW _ A1 k1 c1 HK1.out HN1.out HD1.out).out ?_); rintro e w2 ⟨rfl, hb2⟩; have HD2 := Lib.hid (HD1.out.below hb2); have B2 := Lib.hid (thenD B1.out hb2); have q0 := keep hb2 p0; have q1 := keep hb2 p1; have q2 := keep hb2 p2; have q3 := keep hb2 p3; have q4 := keep hb2 p4; have q5 := keep hb2 p5; have h0 := (hb2.frozen (p := ⟨w.heap.size + 1 + 1, 0, none⟩) (by first | (simp; done) | (simp; omega) | omega)).trans f0; have h1 := (hb2.frozen (p := ⟨w.heap.size + 1 + 1, 1, none⟩) (by first | (simp; done) | (simp; omega) | omega)).trans f1; clear hb2)
      | fail)
  all_goals
    go_wp2_with fail
    refine bodyPost_ret (v := .agg #[.int .i64 sv, .slice A1 (ln X) c1]) (by simp [results, Tryz.results106, go_sem, *]) rfl ⟨_, _, rfl, ⟨?_, HF1.out⟩, ?_⟩
    · exact dr_ne (dr_ne (HD2.out.less HL.out) (fun g e => by have := HF1.out g e; omega) _ _) (fun g e => by have := HF1.out g e; omega) _ _
    · have B := B2.out
      (repeat (first | with_reducible exact Below.refl _ _ | with_reducible assumption | with_reducible refine Below.alloc ?_ (by first | (simp; done) | (simp; omega) | omega) _ | with_reducible refine Below.setCell ?_ (by first | (simp; done) | (simp; omega) | omega) _ | with_reducible refine Below.drew ?_ | with_reducible refine below_drewN ?_ _))

set_option maxRecDepth 100000 in
set_option maxHeartbeats 4000000 in
theorem wadd_g (s t : Int) (A B : Option Addr) (c c' : Nat) (P Q : Int) (w : World) (P0 : 0 ≤ P) (P1 : P < bp 50) (Q0 : 0 ≤ Q) (Q1 : Q < bp 50) (hA : DR w A (ln P) c P) (hB : DR w B (ln Q) c' Q) (hs : s ≠ 0) (ht : t ≠ 0) (hst : s ≠ t) (hlt : Q < P) :
    Calls Tryz.prog 106 #[.agg #[.int .i64 s, .slice A (ln P) c], .agg #[.int .i64 t, .slice B (ln Q) c']] w fun e w' => ∃ A' c2, e = .returned (.agg #[.int .i64 (if P - Q = 0 then 0 else s), .slice A' (ln (P - Q)) c2]) ∧ (DR w' A' (ln (P - Q)) c2 (P - Q) ∧ ∀ g, A' = some ⟨g, 0, none⟩ → w.heap.size + 1 + 1 < g) ∧ Below w.heap.size w w' := by
  have lP := ln_spec P0 (Int.lt_of_lt_of_le P1 (bp_mono (show 50 ≤ 60 by decide)))
  have lQ := ln_spec Q0 (Int.lt_of_lt_of_le Q1 (bp_mono (show 50 ≤ 60 by decide)))
  have nP := ln_le P0 (Int.lt_of_lt_of_le P1 (bp_mono (show 50 ≤ 60 by decide))) P1
  have nQ := ln_le Q0 (Int.lt_of_lt_of_le Q1 (bp_mono (show 50 ≤ 60 by decide))) Q1
  have X60 : P - Q < bp 60 := by
    have := bp_mono (show 50 ≤ 60 by decide)
    omega
  have X0 : 0 ≤ P - Q := by omega
  have HC := fun W a b => Lib.hid (cmpDigits_any A B c c' P Q W P0 (by have := bp_mono (show 50 ≤ 60 by decide); omega) a Q0 (by have := bp_mono (show 50 ≤ 60 by decide); omega) b)
  rw [cmpI_gt hlt] at HC
  have HSD := fun W a b => Lib.hid (subDigits_any A B (ln P) (ln Q) c c' P Q W (by omega) (by omega) P0 lP.1 a Q0 lQ.1 b (by omega))
  have lX := ln_spec X0 X60
  have HW := fun W A1 c1 h3 => Lib.hid (wideOf_any s A1 (ln (P - Q)) c1 (P - Q) W lX.2.2 X0 lX.1 h3)
  generalize (if P - Q = 0 then (0 : Int) else s) = sv at *
  generalize P - Q = X at *
  have HA := Lib.hid hA
  have HB := Lib.hid hB
  have g0 : (s == 0) = false := by simp [hs]
  have g1 : (t == 0) = false := by simp [ht]
  have g2 : (s == t) = false := by simp [hst]
  clear hA hB lP lQ hs ht hst hlt P0 P1 Q0 Q1 lX X0 X60
  generalize ln P = n at *
  generalize ln Q = m at *
  go_enter Tryz.func106, Tryz.ntmps106
  go_wp2_with (first
    | (go_at_call 143; (with_reducible refine Calls.mono (HC _ (HA.out.below (show Below w.heap.size w _ by (repeat (first | with_reducible exact Below.refl _ _ | with_reducible assumption | with_reducible refine Below.alloc ?_ (by first | (simp; done) | (simp; omega) | omega) _ | with_reducible refine Below.setCell ?_ (by first | (simp; done) | (simp; omega) | omega) _ | with_reducible refine Below.drew ?_ | with_reducible refine below_drewN ?_ _)))) (HB.out.below (show Below w.heap.size w _ by (repeat (first | with_reducible exact Below.refl _ _ | with_reducible assumption | with_reducible refine Below.alloc ?_ (by first | (simp; done) | (simp; omega) | omega) _ | with_reducible refine Below.setCell ?_ (by first | (simp; done) | (simp; omega) | omega) _ | with_reducible refine Below.drew ?_ | with_reducible refine below_drewN ?_ _))))).out ?_); rintro e w8 ⟨rfl, hb8⟩; have B8 := Lib.hid (thenD (show Below w.heap.size w _ by (repeat (first | with_reducible exact Below.refl _ _ | with_reducible assumption | with_reducible refine Below.alloc ?_ (by first | (simp; done) | (simp; omega) | omega) _ | with_reducible refine Below.setCell ?_ (by first | (simp; done) | (simp; omega) | omega) _ | with_reducible refine Below.drew ?_ | with_reducible refine below_drewN ?_ _))) hb8); have r0 := (hb8.cell (p := ⟨w.heap.size, 0, none⟩) (by first | (simp; done) | (simp; omega) | omega)).trans (show _ = some (.int .i64 s) by simp [go_sem]); have r1 := (hb8.cell (p := ⟨w.heap.size, 1, none⟩) (by first | (simp; done) | (simp; omega) | omega)).trans (show _ = some (.slice A n c) by simp [go_sem]); have r2 := (hb8.cell (p := ⟨w.heap.size + 1, 0, none⟩) (by first | (simp; done) | (simp; omega) | omega)).trans (show _ = some (.int .i64 t) by simp [go_sem]); have r3 := (hb8.cell (p := ⟨w.heap.size + 1, 1, none⟩) (by first | (simp; done) | (simp; omega) | omega)).trans (show _ = some (.slice B m c') by simp [go_sem]); have r4 := (hb8.cell (p := ⟨w.heap.size + 1 + 1, 0, none⟩) (by first | (simp; done) | (simp; omega) | omega)).trans (show _ = some (.int .i64 0) by simp [go_sem]); have r5 := (hb8.cell (p := ⟨w.heap.size + 1 + 1, 1, none⟩) (by first | (simp; done) | (simp; omega) | omega)).trans (show _ = some (.slice none 0 0) by simp [go_sem]); have f8 := (hb8.frozen (p := ⟨w.heap.size + 1 + 1, 0, none⟩) (by first | (simp; done) | (simp; omega) | omega)).trans (show _ = false by simp [go_sem]); have f9 := (hb8.frozen (p := ⟨w.heap.size + 1 + 1, 1, none⟩) (by first | (simp; done) | (simp; omega) | omega)).trans (show _ = false by simp [go_sem]); have hz8 := hb8.size; (try simp at hz8); (try replace hz8 := Nat.lt_of_succ_le hz8); clear hb8)
    | fail)
  go_region_held3 (fun w' => w'.cell? ⟨w.heap.size, 0, none⟩ = some (.int .i64 s) ∧ w'.cell? ⟨w.heap.size, 1, none⟩ = some (.slice A n c) ∧ w'.cell? ⟨w.heap.size + 1, 0, none⟩ = some (.int .i64 t) ∧ w'.cell? ⟨w.heap.size + 1, 1, none⟩ = some (.slice B m c')) (simp [go_sem, *])
    (first
      | (go_at_call 144; (with_reducible refine Calls.mono (HSD _ (HA.out.below (show Below w.heap.size w _ by have B := B8.out; (repeat (first | with_reducible exact Below.refl _ _ | with_reducible assumption | with_reducible refine Below.alloc ?_ (by first | (simp; done) | (simp; omega) | omega) _ | with_reducible refine Below.setCell ?_ (by first | (simp; done) | (simp; omega) | omega) _ | with_reducible refine Below.drew ?_ | with_reducible refine below_drewN ?_ _)))) (HB.out.below (show Below w.heap.size w _ by have B := B8.out; (repeat (first | with_reducible exact Below.refl _ _ | with_reducible assumption | with_reducible refine Below.alloc ?_ (by first | (simp; done) | (simp; omega) | omega) _ | with_reducible refine Below.setCell ?_ (by first | (simp; done) | (simp; omega) | omega) _ | with_reducible refine Below.drew ?_ | with_reducible refine below_drewN ?_ _))))).out ?_); rintro e w1 ⟨A1, c1, rfl, hd1, hb1⟩; have HD1 := Lib.hid hd1.1; have HF1 : Hid (∀ g, A1 = some ⟨g, 0, none⟩ → w.heap.size + 1 + 1 < g) := (fun g e => by have := hd1.2 g e; (try simp at this); omega); have HL : Hid (ln X ≤ ln X) := Nat.le_refl _; clear hd1; have B1 := Lib.hid (thenD (show Below w.heap.size w _ by have B := B8.out; (repeat (first | with_reducible exact Below.refl _ _ | with_reducible assumption | with_reducible refine Below.alloc ?_ (by first | (simp; done) | (simp; omega) | omega) _ | with_reducible refine Below.setCell ?_ (by first | (simp; done) | (simp; omega) | omega) _ | with_reducible refine Below.drew ?_ | with_reducible refine below_drewN ?_ _))) hb1); have p0 := (hb1.cell (p := ⟨w.heap.size, 0, none⟩) (by first | (simp; done) | (simp; omega) | omega)).trans (show _ = some (.int .i64 s) by simp [go_sem, *]); have p1 := (hb1.cell (p := ⟨w.heap.size, 1, none⟩) (by first | (simp; done) | (simp; omega) | omega)).trans (show _ = some (.slice A n c) by simp [go_sem, *]); have p2 := (hb1.cell (p := ⟨w.heap.size + 1, 0, none⟩) (by first | (simp; done) | (simp; omega) | omega)).trans (show _ = some (.int .i64 t) by simp [go_sem, *]); have p3 := (hb1.cell (p := ⟨w.heap.size + 1, 1, none⟩) (by first | (simp; done) | (simp; omega) | omega)).trans (show _ = some (.slice B m c') by simp [go_sem, *]); have p4 := (hb1.cell (p := ⟨w.heap.size + 1 + 1, 0, none⟩) (by first | (simp; done) | (simp; omega) | omega)).trans (show _ = some (.int .i64 0) by simp [go_sem, *]); have p5 := (hb1.cell (p := ⟨w.heap.size + 1 + 1, 1, none⟩) (by first | (simp; done) | (simp; omega) | omega)).trans (show _ = some (.slice none 0 0) by simp [go_sem, *]); have f0 := (hb1.frozen (p := ⟨w.heap.size + 1 + 1, 0, none⟩) (by first | (simp; done) | (simp; omega) | omega)).trans (show _ = false by simp [go_sem, *]); have f1 := (hb1.frozen (p := ⟨w.heap.size + 1 + 1, 1, none⟩) (by first | (simp; done) | (simp; omega) | omega)).trans (show _ = false by simp [go_sem, *]); have hz1 := hb1.size; (try simp at hz1); clear hb1)
      | (go_at_call 141; (with_reducible refine Calls.mono (HW _ A1 c1 HD1.out).out ?_); rintro e w2 ⟨rfl, hb2⟩; have HD2 := Lib.hid (HD1.out.below hb2); have B2 := Lib.hid (thenD B1.out hb2); have q0 := keep hb2 p0; have q1 := keep hb2 p1; have q2 := keep hb2 p2; have q3 := keep hb2 p3; have q4 := keep hb2 p4; have q5 := keep hb2 p5; have h0 := (hb2.frozen (p := ⟨w.heap.size + 1 + 1, 0, none⟩) (by first | (simp; done) | (simp; omega) | omega)).trans f0; have h1 := (hb2.frozen (p := ⟨w.heap.size + 1 + 1, 1, none⟩) (by first | (simp; done) | (simp; omega) | omega)).trans f1; clear hb2)
      | fail)
  all_goals
    go_wp2_with fail
    refine bodyPost_ret (v := .agg #[.int .i64 sv, .slice A1 (ln X) c1]) (by simp [results, Tryz.results106, go_sem, *]) rfl ⟨_, _, rfl, ⟨?_, HF1.out⟩, ?_⟩
    · exact dr_ne (dr_ne (HD2.out.less HL.out) (fun g e => by have := HF1.out g e; omega) _ _) (fun g e => by have := HF1.out g e; omega) _ _
    · have B := B2.out
      (repeat (first | with_reducible exact Below.refl _ _ | with_reducible assumption | with_reducible refine Below.alloc ?_ (by first | (simp; done) | (simp; omega) | omega) _ | with_reducible refine Below.setCell ?_ (by first | (simp; done) | (simp; omega) | omega) _ | with_reducible refine Below.drew ?_ | with_reducible refine below_drewN ?_ _))
set_option maxRecDepth 100000 in
set_option maxHeartbeats 4000000 in
theorem wadd_m (s t : Int) (A B : Option Addr) (c c' : Nat) (P Q : Int) (w : World) (P0 : 0 ≤ P) (P1 : P < bp 50) (Q0 : 0 ≤ Q) (Q1 : Q < bp 50) (hA : DR w A (ln P) c P) (hB : DR w B (ln Q) c' Q) (hs : s ≠ 0) (ht : t ≠ 0) (hst : s ≠ t) (hlt : P < Q) :
    Calls Tryz.prog 106 #[.agg #[.int .i64 s, .slice A (ln P) c], .agg #[.int .i64 t, .slice B (ln Q) c']] w fun e w' => ∃ A' c2, e = .returned (.agg #[.int .i64 (if Q - P = 0 then 0 else t), .slice A' (ln (Q - P)) c2]) ∧ (DR w' A' (ln (Q - P)) c2 (Q - P) ∧ ∀ g, A' = some ⟨g, 0, none⟩ → w.heap.size + 1 + 1 < g) ∧ Below w.heap.size w w' := by
  have lP := ln_spec P0 (Int.lt_of_lt_of_le P1 (bp_mono (show 50 ≤ 60 by decide)))
  have lQ := ln_spec Q0 (Int.lt_of_lt_of_le Q1 (bp_mono (show 50 ≤ 60 by decide)))
  have nP := ln_le P0 (Int.lt_of_lt_of_le P1 (bp_mono (show 50 ≤ 60 by decide))) P1
  have nQ := ln_le Q0 (Int.lt_of_lt_of_le Q1 (bp_mono (show 50 ≤ 60 by decide))) Q1
  have X60 : Q - P < bp 60 := by
    have := bp_mono (show 50 ≤ 60 by decide)
    omega
  have X0 : 0 ≤ Q - P := by omega
  have HC := fun W a b => Lib.hid (cmpDigits_any A B c c' P Q W P0 (by have := bp_mono (show 50 ≤ 60 by decide); omega) a Q0 (by have := bp_mono (show 50 ≤ 60 by decide); omega) b)
  rw [cmpI_lt hlt] at HC
  have HSD := fun W a b => Lib.hid (subDigits_any B A (ln Q) (ln P) c' c Q P W (by omega) (by omega) Q0 lQ.1 a P0 lP.1 b (by omega))
  have lX := ln_spec X0 X60
  have HW := fun W A1 c1 h3 => Lib.hid (wideOf_any t A1 (ln (Q - P)) c1 (Q - P) W lX.2.2 X0 lX.1 h3)
  generalize (if Q - P = 0 then (0 : Int) else t) = sv at *
  generalize Q - P = X at *
  have HA := Lib.hid hA
  have HB := Lib.hid hB
  have g0 : (s == 0) = false := by simp [hs]
  have g1 : (t == 0) = false := by simp [ht]
  have g2 : (s == t) = false := by simp [hst]
  clear hA hB lP lQ hs ht hst hlt P0 P1 Q0 Q1 lX X0 X60
  generalize ln P = n at *
  generalize ln Q = m at *
  go_enter Tryz.func106, Tryz.ntmps106
  go_wp2_with (first
    | (go_at_call 143; (with_reducible refine Calls.mono (HC _ (HA.out.below (show Below w.heap.size w _ by (repeat (first | with_reducible exact Below.refl _ _ | with_reducible assumption | with_reducible refine Below.alloc ?_ (by first | (simp; done) | (simp; omega) | omega) _ | with_reducible refine Below.setCell ?_ (by first | (simp; done) | (simp; omega) | omega) _ | with_reducible refine Below.drew ?_ | with_reducible refine below_drewN ?_ _)))) (HB.out.below (show Below w.heap.size w _ by (repeat (first | with_reducible exact Below.refl _ _ | with_reducible assumption | with_reducible refine Below.alloc ?_ (by first | (simp; done) | (simp; omega) | omega) _ | with_reducible refine Below.setCell ?_ (by first | (simp; done) | (simp; omega) | omega) _ | with_reducible refine Below.drew ?_ | with_reducible refine below_drewN ?_ _))))).out ?_); rintro e w8 ⟨rfl, hb8⟩; have B8 := Lib.hid (thenD (show Below w.heap.size w _ by (repeat (first | with_reducible exact Below.refl _ _ | with_reducible assumption | with_reducible refine Below.alloc ?_ (by first | (simp; done) | (simp; omega) | omega) _ | with_reducible refine Below.setCell ?_ (by first | (simp; done) | (simp; omega) | omega) _ | with_reducible refine Below.drew ?_ | with_reducible refine below_drewN ?_ _))) hb8); have r0 := (hb8.cell (p := ⟨w.heap.size, 0, none⟩) (by first | (simp; done) | (simp; omega) | omega)).trans (show _ = some (.int .i64 s) by simp [go_sem]); have r1 := (hb8.cell (p := ⟨w.heap.size, 1, none⟩) (by first | (simp; done) | (simp; omega) | omega)).trans (show _ = some (.slice A n c) by simp [go_sem]); have r2 := (hb8.cell (p := ⟨w.heap.size + 1, 0, none⟩) (by first | (simp; done) | (simp; omega) | omega)).trans (show _ = some (.int .i64 t) by simp [go_sem]); have r3 := (hb8.cell (p := ⟨w.heap.size + 1, 1, none⟩) (by first | (simp; done) | (simp; omega) | omega)).trans (show _ = some (.slice B m c') by simp [go_sem]); have r4 := (hb8.cell (p := ⟨w.heap.size + 1 + 1, 0, none⟩) (by first | (simp; done) | (simp; omega) | omega)).trans (show _ = some (.int .i64 0) by simp [go_sem]); have r5 := (hb8.cell (p := ⟨w.heap.size + 1 + 1, 1, none⟩) (by first | (simp; done) | (simp; omega) | omega)).trans (show _ = some (.slice none 0 0) by simp [go_sem]); have f8 := (hb8.frozen (p := ⟨w.heap.size + 1 + 1, 0, none⟩) (by first | (simp; done) | (simp; omega) | omega)).trans (show _ = false by simp [go_sem]); have f9 := (hb8.frozen (p := ⟨w.heap.size + 1 + 1, 1, none⟩) (by first | (simp; done) | (simp; omega) | omega)).trans (show _ = false by simp [go_sem]); have hz8 := hb8.size; (try simp at hz8); (try replace hz8 := Nat.lt_of_succ_le hz8); clear hb8)
    | fail)
  go_region_held3 (fun w' => w'.cell? ⟨w.heap.size, 0, none⟩ = some (.int .i64 s) ∧ w'.cell? ⟨w.heap.size, 1, none⟩ = some (.slice A n c) ∧ w'.cell? ⟨w.heap.size + 1, 0, none⟩ = some (.int .i64 t) ∧ w'.cell? ⟨w.heap.size + 1, 1, none⟩ = some (.slice B m c')) (simp [go_sem, *])
    (first
      | (go_at_call 144; (with_reducible refine Calls.mono (HSD _ (HB.out.below (show Below w.heap.size w _ by have B := B8.out; (repeat (first | with_reducible exact Below.refl _ _ | with_reducible assumption | with_reducible refine Below.alloc ?_ (by first | (simp; done) | (simp; omega) | omega) _ | with_reducible refine Below.setCell ?_ (by first | (simp; done) | (simp; omega) | omega) _ | with_reducible refine Below.drew ?_ | with_reducible refine below_drewN ?_ _)))) (HA.out.below (show Below w.heap.size w _ by have B := B8.out; (repeat (first | with_reducible exact Below.refl _ _ | with_reducible assumption | with_reducible refine Below.alloc ?_ (by first | (simp; done) | (simp; omega) | omega) _ | with_reducible refine Below.setCell ?_ (by first | (simp; done) | (simp; omega) | omega) _ | with_reducible refine Below.drew ?_ | with_reducible refine below_drewN ?_ _))))).out ?_); rintro e w1 ⟨A1, c1, rfl, hd1, hb1⟩; have HD1 := Lib.hid hd1.1; have HF1 : Hid (∀ g, A1 = some ⟨g, 0, none⟩ → w.heap.size + 1 + 1 < g) := (fun g e => by have := hd1.2 g e; (try simp at this); omega); have HL : Hid (ln X ≤ ln X) := Nat.le_refl _; clear hd1; have B1 := Lib.hid (thenD (show Below w.heap.size w _ by have B := B8.out; (repeat (first | with_reducible exact Below.refl _ _ | with_reducible assumption | with_reducible refine Below.alloc ?_ (by first | (simp; done) | (simp; omega) | omega) _ | with_reducible refine Below.setCell ?_ (by first | (simp; done) | (simp; omega) | omega) _ | with_reducible refine Below.drew ?_ | with_reducible refine below_drewN ?_ _))) hb1); have p0 := (hb1.cell (p := ⟨w.heap.size, 0, none⟩) (by first | (simp; done) | (simp; omega) | omega)).trans (show _ = some (.int .i64 s) by simp [go_sem, *]); have p1 := (hb1.cell (p := ⟨w.heap.size, 1, none⟩) (by first | (simp; done) | (simp; omega) | omega)).trans (show _ = some (.slice A n c) by simp [go_sem, *]); have p2 := (hb1.cell (p := ⟨w.heap.size + 1, 0, none⟩) (by first | (simp; done) | (simp; omega) | omega)).trans (show _ = some (.int .i64 t) by simp [go_sem, *]); have p3 := (hb1.cell (p := ⟨w.heap.size + 1, 1, none⟩) (by first | (simp; done) | (simp; omega) | omega)).trans (show _ = some (.slice B m c') by simp [go_sem, *]); have p4 := (hb1.cell (p := ⟨w.heap.size + 1 + 1, 0, none⟩) (by first | (simp; done) | (simp; omega) | omega)).trans (show _ = some (.int .i64 0) by simp [go_sem, *]); have p5 := (hb1.cell (p := ⟨w.heap.size + 1 + 1, 1, none⟩) (by first | (simp; done) | (simp; omega) | omega)).trans (show _ = some (.slice none 0 0) by simp [go_sem, *]); have f0 := (hb1.frozen (p := ⟨w.heap.size + 1 + 1, 0, none⟩) (by first | (simp; done) | (simp; omega) | omega)).trans (show _ = false by simp [go_sem, *]); have f1 := (hb1.frozen (p := ⟨w.heap.size + 1 + 1, 1, none⟩) (by first | (simp; done) | (simp; omega) | omega)).trans (show _ = false by simp [go_sem, *]); have hz1 := hb1.size; (try simp at hz1); clear hb1)
      | (go_at_call 141; (with_reducible refine Calls.mono (HW _ A1 c1 HD1.out).out ?_); rintro e w2 ⟨rfl, hb2⟩; have HD2 := Lib.hid (HD1.out.below hb2); have B2 := Lib.hid (thenD B1.out hb2); have q0 := keep hb2 p0; have q1 := keep hb2 p1; have q2 := keep hb2 p2; have q3 := keep hb2 p3; have q4 := keep hb2 p4; have q5 := keep hb2 p5; have h0 := (hb2.frozen (p := ⟨w.heap.size + 1 + 1, 0, none⟩) (by first | (simp; done) | (simp; omega) | omega)).trans f0; have h1 := (hb2.frozen (p := ⟨w.heap.size + 1 + 1, 1, none⟩) (by first | (simp; done) | (simp; omega) | omega)).trans f1; clear hb2)
      | fail)
  all_goals
    go_wp2_with fail
    refine bodyPost_ret (v := .agg #[.int .i64 sv, .slice A1 (ln X) c1]) (by simp [results, Tryz.results106, go_sem, *]) rfl ⟨_, _, rfl, ⟨?_, HF1.out⟩, ?_⟩
    · exact dr_ne (dr_ne (HD2.out.less HL.out) (fun g e => by have := HF1.out g e; omega) _ _) (fun g e => by have := HF1.out g e; omega) _ _
    · have B := B2.out
      (repeat (first | with_reducible exact Below.refl _ _ | with_reducible assumption | with_reducible refine Below.alloc ?_ (by first | (simp; done) | (simp; omega) | omega) _ | with_reducible refine Below.setCell ?_ (by first | (simp; done) | (simp; omega) | omega) _ | with_reducible refine Below.drew ?_ | with_reducible refine below_drewN ?_ _))
set_option maxRecDepth 100000 in
set_option maxHeartbeats 4000000 in
theorem wadd_e (s t : Int) (A B : Option Addr) (c c' : Nat) (P Q : Int) (w : World) (P0 : 0 ≤ P) (P1 : P < bp 50) (Q0 : 0 ≤ Q) (_ : Q < bp 50) (hA : DR w A (ln P) c P) (hB : DR w B (ln Q) c' Q) (hs : s ≠ 0) (ht : t ≠ 0) (hst : s ≠ t) (hlt : P = Q) :
    Calls Tryz.prog 106 #[.agg #[.int .i64 s, .slice A (ln P) c], .agg #[.int .i64 t, .slice B (ln Q) c']] w fun e w' => e = .returned (.agg #[.int .i64 0, .slice none 0 0]) ∧ Below w.heap.size w w' := by
  have HC := fun W a b => Lib.hid (cmpDigits_any A B c c' P Q W P0 (by have := bp_mono (show 50 ≤ 60 by decide); omega) a Q0 (by have := bp_mono (show 50 ≤ 60 by decide); omega) b)
  rw [cmpI_eq hlt] at HC
  have HA := Lib.hid hA
  have HB := Lib.hid hB
  have g0 : (s == 0) = false := by simp [hs]
  have g1 : (t == 0) = false := by simp [ht]
  have g2 : (s == t) = false := by simp [hst]
  clear hA hB hs ht hst hlt P0 P1 Q0
  generalize ln P = n at *
  generalize ln Q = m at *
  go_enter Tryz.func106, Tryz.ntmps106
  go_wp2_with (first
    | (go_at_call 143; (with_reducible refine Calls.mono (HC _ (HA.out.below (show Below w.heap.size w _ by (repeat (first | with_reducible exact Below.refl _ _ | with_reducible assumption | with_reducible refine Below.alloc ?_ (by first | (simp; done) | (simp; omega) | omega) _ | with_reducible refine Below.setCell ?_ (by first | (simp; done) | (simp; omega) | omega) _ | with_reducible refine Below.drew ?_ | with_reducible refine below_drewN ?_ _)))) (HB.out.below (show Below w.heap.size w _ by (repeat (first | with_reducible exact Below.refl _ _ | with_reducible assumption | with_reducible refine Below.alloc ?_ (by first | (simp; done) | (simp; omega) | omega) _ | with_reducible refine Below.setCell ?_ (by first | (simp; done) | (simp; omega) | omega) _ | with_reducible refine Below.drew ?_ | with_reducible refine below_drewN ?_ _))))).out ?_); rintro e w8 ⟨rfl, hb8⟩; have B8 := Lib.hid (thenD (show Below w.heap.size w _ by (repeat (first | with_reducible exact Below.refl _ _ | with_reducible assumption | with_reducible refine Below.alloc ?_ (by first | (simp; done) | (simp; omega) | omega) _ | with_reducible refine Below.setCell ?_ (by first | (simp; done) | (simp; omega) | omega) _ | with_reducible refine Below.drew ?_ | with_reducible refine below_drewN ?_ _))) hb8); have r0 := (hb8.cell (p := ⟨w.heap.size, 0, none⟩) (by first | (simp; done) | (simp; omega) | omega)).trans (show _ = some (.int .i64 s) by simp [go_sem]); have r1 := (hb8.cell (p := ⟨w.heap.size, 1, none⟩) (by first | (simp; done) | (simp; omega) | omega)).trans (show _ = some (.slice A n c) by simp [go_sem]); have r2 := (hb8.cell (p := ⟨w.heap.size + 1, 0, none⟩) (by first | (simp; done) | (simp; omega) | omega)).trans (show _ = some (.int .i64 t) by simp [go_sem]); have r3 := (hb8.cell (p := ⟨w.heap.size + 1, 1, none⟩) (by first | (simp; done) | (simp; omega) | omega)).trans (show _ = some (.slice B m c') by simp [go_sem]); have r4 := (hb8.cell (p := ⟨w.heap.size + 1 + 1, 0, none⟩) (by first | (simp; done) | (simp; omega) | omega)).trans (show _ = some (.int .i64 0) by simp [go_sem]); have r5 := (hb8.cell (p := ⟨w.heap.size + 1 + 1, 1, none⟩) (by first | (simp; done) | (simp; omega) | omega)).trans (show _ = some (.slice none 0 0) by simp [go_sem]); have f8 := (hb8.frozen (p := ⟨w.heap.size + 1 + 1, 0, none⟩) (by first | (simp; done) | (simp; omega) | omega)).trans (show _ = false by simp [go_sem]); have f9 := (hb8.frozen (p := ⟨w.heap.size + 1 + 1, 1, none⟩) (by first | (simp; done) | (simp; omega) | omega)).trans (show _ = false by simp [go_sem]); have hz8 := hb8.size; (try simp at hz8); (try replace hz8 := Nat.lt_of_succ_le hz8); clear hb8)
    | fail)
  refine bodyPost_ret (v := .agg #[.int .i64 0, .slice none 0 0]) (by simp [results, Tryz.results106, go_sem, *]) rfl ⟨rfl, ?_⟩
  have B := B8.out
  (repeat (first | with_reducible exact Below.refl _ _ | with_reducible assumption | with_reducible refine Below.alloc ?_ (by first | (simp; done) | (simp; omega) | omega) _ | with_reducible refine Below.setCell ?_ (by first | (simp; done) | (simp; omega) | omega) _ | with_reducible refine Below.drew ?_ | with_reducible refine below_drewN ?_ _))
end Go.Proofs.YtnfoagcpgegldaaGreat
