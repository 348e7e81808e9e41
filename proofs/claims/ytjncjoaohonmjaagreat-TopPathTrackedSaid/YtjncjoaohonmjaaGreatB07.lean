/- Helpers: the contract of placeAt between two knots. -/
import Derived.Test.YtjncjoaohonmjaaGreatB06
import Derived.StillTailTactics
import Derived.Deep.DeepCutAuto
namespace Go.Proofs.YtjncjoaohonmjaaGreat
open Go.RowKit Go.Shelf Go.Sort
attribute [local go_sem] idx3_0 idx3_1 idx3_2 old1 fro1 old2 fro2 old3 fro3 old4 fro4 old5 fro5 old6 fro6 old7 fro7 old8 fro8 old9 fro9 old10 fro10 old11 fro11 old12 fro12
theorem mul_bd {a t A T : Int} (h1 : -A ≤ a) (h2 : a ≤ A) (h3 : 0 ≤ t) (h4 : t ≤ T) (hA : 0 ≤ A) : -(A * T) ≤ a * t ∧ a * t ≤ A * T := by
  have e1 : a * t ≤ A * t := Int.mul_le_mul_of_nonneg_right h2 h3
  have e2 : A * t ≤ A * T := Int.mul_le_mul_of_nonneg_left h4 hA
  have e3 : -A * t ≤ a * t := Int.mul_le_mul_of_nonneg_right h1 h3
  rw [Int.neg_mul] at e3
  omega
def PI (w : World) (R TM AF TO BF D : Nat) (time ta tb x y z a0 a1 a2 dn : Int) (wx : World) : Prop :=
  (Below w.heap.size w wx ∧ w.heap.size ≤ R ∧ w.heap.size ≤ D ∧ D ≠ R ∧ D ≠ TM ∧ D ≠ AF ∧ D ≠ TO ∧ D ≠ BF) ∧
  (wx.cell? ⟨R, 0, none⟩ = some (.int .i64 0) ∧ wx.cell? ⟨R, 1, none⟩ = some (.int .i64 0) ∧ wx.cell? ⟨R, 2, none⟩ = some (.int .i64 0) ∧ wx.cell? ⟨R, 3, none⟩ = some (.int .i64 0)) ∧
  (wx.frozen? ⟨R, 0, none⟩ = false ∧ wx.frozen? ⟨R, 1, none⟩ = false ∧ wx.frozen? ⟨R, 2, none⟩ = false ∧ wx.frozen? ⟨R, 3, none⟩ = false) ∧
  (wx.cell? ⟨TM, 0, none⟩ = some (.int .i64 time) ∧ wx.cell? ⟨AF, 0, none⟩ = some (.int .i64 ta) ∧ wx.cell? ⟨BF, 0, none⟩ = some (.int .i64 tb)) ∧
  (wx.cell? ⟨TO, 0, none⟩ = some (.int .i64 x) ∧ wx.cell? ⟨TO, 1, none⟩ = some (.int .i64 y) ∧ wx.cell? ⟨TO, 2, none⟩ = some (.int .i64 z)) ∧
  (wx.cell? ⟨D, 0, none⟩ = some (.int .i64 a0) ∧ wx.cell? ⟨D, 1, none⟩ = some (.int .i64 a1) ∧ wx.cell? ⟨D, 2, none⟩ = some (.int .i64 a2) ∧ wx.cell? ⟨D, 3, none⟩ = some (.int .i64 dn)) ∧
  (wx.frozen? ⟨D, 0, none⟩ = false ∧ wx.frozen? ⟨D, 1, none⟩ = false ∧ wx.frozen? ⟨D, 2, none⟩ = false ∧ wx.frozen? ⟨D, 3, none⟩ = false)
theorem PI.step0 {w wx : World} {R TM AF TO BF D : Nat} {time ta tb x y z a0 a1 a2 dn : Int} (h : PI w R TM AF TO BF D time ta tb x y z a0 a1 a2 dn wx) (v : Int) :
    PI w R TM AF TO BF D time ta tb x y z v a1 a2 dn (wx.setCell ⟨D, 0, none⟩ (.int .i64 v)).drew := by
  obtain ⟨⟨h1, h2, h3, h4, h5, h6, h7, h8⟩, ⟨r0, r1, r2, r3⟩, ⟨q0, q1, q2, q3⟩, ⟨c1, c2, c3⟩, ⟨t1, t2, t3⟩, ⟨d0, d1, d2, d3⟩, ⟨e0, e1, e2, e3⟩⟩ := h
  have n4 := Ne.symm h4
  have n5 := Ne.symm h5
  have n6 := Ne.symm h6
  have n7 := Ne.symm h7
  have n8 := Ne.symm h8
  refine ⟨⟨by (repeat (first | with_reducible exact Below.refl _ _ | with_reducible assumption | with_reducible refine Below.alloc ?_ (by first | (simp; done) | (simp; omega) | omega) _ | with_reducible refine Below.setCell ?_ (by first | (simp; done) | (simp; omega) | omega) _ | with_reducible refine Below.drew ?_ | with_reducible refine below_drewN ?_ _)), h2, h3, h4, h5, h6, h7, h8⟩, ⟨?_, ?_, ?_, ?_⟩, ⟨?_, ?_, ?_, ?_⟩, ⟨?_, ?_, ?_⟩, ⟨?_, ?_, ?_⟩, ⟨?_, ?_, ?_, ?_⟩, ⟨?_, ?_, ?_, ?_⟩⟩
  all_goals simp [go_sem, *]
theorem PI.step1 {w wx : World} {R TM AF TO BF D : Nat} {time ta tb x y z a0 a1 a2 dn : Int} (h : PI w R TM AF TO BF D time ta tb x y z a0 a1 a2 dn wx) (v : Int) :
    PI w R TM AF TO BF D time ta tb x y z a0 v a2 dn (wx.setCell ⟨D, 1, none⟩ (.int .i64 v)).drew := by
  obtain ⟨⟨h1, h2, h3, h4, h5, h6, h7, h8⟩, ⟨r0, r1, r2, r3⟩, ⟨q0, q1, q2, q3⟩, ⟨c1, c2, c3⟩, ⟨t1, t2, t3⟩, ⟨d0, d1, d2, d3⟩, ⟨e0, e1, e2, e3⟩⟩ := h
  have n4 := Ne.symm h4
  have n5 := Ne.symm h5
  have n6 := Ne.symm h6
  have n7 := Ne.symm h7
  have n8 := Ne.symm h8
  refine ⟨⟨by (repeat (first | with_reducible exact Below.refl _ _ | with_reducible assumption | with_reducible refine Below.alloc ?_ (by first | (simp; done) | (simp; omega) | omega) _ | with_reducible refine Below.setCell ?_ (by first | (simp; done) | (simp; omega) | omega) _ | with_reducible refine Below.drew ?_ | with_reducible refine below_drewN ?_ _)), h2, h3, h4, h5, h6, h7, h8⟩, ⟨?_, ?_, ?_, ?_⟩, ⟨?_, ?_, ?_, ?_⟩, ⟨?_, ?_, ?_⟩, ⟨?_, ?_, ?_⟩, ⟨?_, ?_, ?_, ?_⟩, ⟨?_, ?_, ?_, ?_⟩⟩
  all_goals simp [go_sem, *]
theorem PI.step2 {w wx : World} {R TM AF TO BF D : Nat} {time ta tb x y z a0 a1 a2 dn : Int} (h : PI w R TM AF TO BF D time ta tb x y z a0 a1 a2 dn wx) (v : Int) :
    PI w R TM AF TO BF D time ta tb x y z a0 a1 v dn (wx.setCell ⟨D, 2, none⟩ (.int .i64 v)).drew := by
  obtain ⟨⟨h1, h2, h3, h4, h5, h6, h7, h8⟩, ⟨r0, r1, r2, r3⟩, ⟨q0, q1, q2, q3⟩, ⟨c1, c2, c3⟩, ⟨t1, t2, t3⟩, ⟨d0, d1, d2, d3⟩, ⟨e0, e1, e2, e3⟩⟩ := h
  have n4 := Ne.symm h4
  have n5 := Ne.symm h5
  have n6 := Ne.symm h6
  have n7 := Ne.symm h7
  have n8 := Ne.symm h8
  refine ⟨⟨by (repeat (first | with_reducible exact Below.refl _ _ | with_reducible assumption | with_reducible refine Below.alloc ?_ (by first | (simp; done) | (simp; omega) | omega) _ | with_reducible refine Below.setCell ?_ (by first | (simp; done) | (simp; omega) | omega) _ | with_reducible refine Below.drew ?_ | with_reducible refine below_drewN ?_ _)), h2, h3, h4, h5, h6, h7, h8⟩, ⟨?_, ?_, ?_, ?_⟩, ⟨?_, ?_, ?_, ?_⟩, ⟨?_, ?_, ?_⟩, ⟨?_, ?_, ?_⟩, ⟨?_, ?_, ?_, ?_⟩, ⟨?_, ?_, ?_, ?_⟩⟩
  all_goals simp [go_sem, *]
def sel (i j old new : Int) : Int := if i < j then new else old
set_option maxRecDepth 100000 in
set_option maxHeartbeats 4000000 in
theorem placeAt_lt (b off n c : Nat) (d time : Int) (w : World) (kt kx ky kz : Nat → Int) (m : Nat) (hn : n ≤ 100) (hb : b < w.heap.size)
    (hc : ∀ i, i < n → w.cell? ⟨b, off + i * 4, none⟩ = some (.int .i64 (kt i)) ∧ w.cell? ⟨b, off + i * 4 + 1, none⟩ = some (.int .i64 (kx i)) ∧
      w.cell? ⟨b, off + i * 4 + 2, none⟩ = some (.int .i64 (ky i)) ∧ w.cell? ⟨b, off + i * 4 + 3, none⟩ = some (.int .i64 (kz i)))
    (hm : m < n) (h0 : 0 < m) (hge : time < kt m) (hlt : ∀ j, j < m → kt j < time) (_ : 0 ≤ kt (m - 1)) (_ : kt m ≤ 1000000000000) (u3 : kt m - kt (m - 1) ≤ 10000) (vx : ∀ i, i < n → -1000000 ≤ kx i ∧ kx i ≤ 1000000) (vy : ∀ i, i < n → -1000000 ≤ ky i ∧ ky i ≤ 1000000) (vz : ∀ i, i < n → -1000000 ≤ kz i ∧ kz i ≤ 1000000) :
    Calls Tryz.prog 32 #[.agg #[.slice (some ⟨b, off, none⟩) n c, .int .i64 d], .int .i64 time] w fun e w' => e = .returned (.agg #[.int .i64 (kx (m - 1) * (kt m - time) + kx m * (time - kt (m - 1))), .int .i64 (ky (m - 1) * (kt m - time) + ky m * (time - kt (m - 1))), .int .i64 (kz (m - 1) * (kt m - time) + kz m * (time - kt (m - 1))), .int .i64 (kt m - kt (m - 1))]) ∧ Below w.heap.size w w' := by
  have HI := Lib.hid (indexFunc_knot 70 #[.pointer (some ⟨w.heap.size + 1, 0, none⟩)] n c b off kt kx ky kz (fun i => decide (time ≤ kt i))
    (((w.alloc (.cells #[.slice (some ⟨b, off, none⟩) n c, .int .i64 d] 29)).alloc (.cells #[.int .i64 time] 3)).alloc (.cells #[.int .i64 0, .int .i64 0, .int .i64 0, .int .i64 0] 75))
    (enters_of Tryz.func70 (by kernel_rfl) rfl) (by omega) (by simp; omega) (fun i hi => by have := hc i hi; simp [go_sem, this])
    (fun i w1 hi hb1 => placeAt1_any _ _ _ _ time _ w1 (by rw [hb1.cell (by first | (simp; done) | (simp; omega) | omega)]; simp [go_sem]) (by have := hb1.size; simp at this; omega)))
  rw [fidx_hit hm (by simp; omega) (fun j hj => by have := hlt j hj; simp; omega)] at HI
  obtain ⟨e1, e2, e3, e4⟩ := hc m hm
  have hcm := hc (m - 1) (by omega)
  have hl1 := hlt (m - 1) (by omega)
  clear hlt
  have VX := Lib.hid vx
  have VY := Lib.hid vy
  have VZ := Lib.hid vz
  clear vx vy vz
  clear hc
  have hq : (kt m == time) = false := by simp; omega
  obtain ⟨i1, i2, i3, i4⟩ := hcm
  go_enter Tryz.func32, Tryz.ntmps32
  go_wp2_with (first | (go_at_call 69; refine HI.out.mono ?_; rintro e w1 ⟨rfl, hb1⟩; have g1 := (hb1.cell (p := ⟨w.heap.size, 0, none⟩) (by first | (simp; done) | (simp; omega) | omega)).trans (show _ = some (Value.slice (some ⟨b, off, none⟩) n c) by simp [go_sem, *]); have g2 := (hb1.cell (p := ⟨w.heap.size + 1, 0, none⟩) (by first | (simp; done) | (simp; omega) | omega)).trans (show _ = some (Value.int .i64 time) by simp [go_sem, *]); have f1 := (hb1.cell (p := ⟨b, off + m * 4, none⟩) (by first | (simp; done) | (simp; omega) | omega)).trans (show _ = some (Value.int .i64 (kt m)) by simp [go_sem, *]); have f2 := (hb1.cell (p := ⟨b, off + m * 4 + 1, none⟩) (by first | (simp; done) | (simp; omega) | omega)).trans (show _ = some (Value.int .i64 (kx m)) by simp [go_sem, *]); have f3 := (hb1.cell (p := ⟨b, off + m * 4 + 2, none⟩) (by first | (simp; done) | (simp; omega) | omega)).trans (show _ = some (Value.int .i64 (ky m)) by simp [go_sem, *]); have f4 := (hb1.cell (p := ⟨b, off + m * 4 + 3, none⟩) (by first | (simp; done) | (simp; omega) | omega)).trans (show _ = some (Value.int .i64 (kz m)) by simp [go_sem, *]); have x0 := (hb1.cell (p := ⟨w.heap.size + 1 + 1, 0, none⟩) (by first | (simp; done) | (simp; omega) | omega)).trans (show _ = some (Value.int .i64 0) by simp [go_sem, *]); have y0 := (hb1.frozen (p := ⟨w.heap.size + 1 + 1, 0, none⟩) (by first | (simp; done) | (simp; omega) | omega)).trans (show _ = false by simp [go_sem, *]); have x1 := (hb1.cell (p := ⟨w.heap.size + 1 + 1, 1, none⟩) (by first | (simp; done) | (simp; omega) | omega)).trans (show _ = some (Value.int .i64 0) by simp [go_sem, *]); have y1 := (hb1.frozen (p := ⟨w.heap.size + 1 + 1, 1, none⟩) (by first | (simp; done) | (simp; omega) | omega)).trans (show _ = false by simp [go_sem, *]); have x2 := (hb1.cell (p := ⟨w.heap.size + 1 + 1, 2, none⟩) (by first | (simp; done) | (simp; omega) | omega)).trans (show _ = some (Value.int .i64 0) by simp [go_sem, *]); have y2 := (hb1.frozen (p := ⟨w.heap.size + 1 + 1, 2, none⟩) (by first | (simp; done) | (simp; omega) | omega)).trans (show _ = false by simp [go_sem, *]); have x3 := (hb1.cell (p := ⟨w.heap.size + 1 + 1, 3, none⟩) (by first | (simp; done) | (simp; omega) | omega)).trans (show _ = some (Value.int .i64 0) by simp [go_sem, *]); have y3 := (hb1.frozen (p := ⟨w.heap.size + 1 + 1, 3, none⟩) (by first | (simp; done) | (simp; omega) | omega)).trans (show _ = false by simp [go_sem, *]); have j1 := (hb1.cell (p := ⟨b, off + (m - 1) * 4, none⟩) (by first | (simp; done) | (simp; omega) | omega)).trans (show _ = some (Value.int .i64 (kt (m - 1))) by simp [go_sem, *]); have j2 := (hb1.cell (p := ⟨b, off + (m - 1) * 4 + 1, none⟩) (by first | (simp; done) | (simp; omega) | omega)).trans (show _ = some (Value.int .i64 (kx (m - 1))) by simp [go_sem, *]); have j3 := (hb1.cell (p := ⟨b, off + (m - 1) * 4 + 2, none⟩) (by first | (simp; done) | (simp; omega) | omega)).trans (show _ = some (Value.int .i64 (ky (m - 1))) by simp [go_sem, *]); have j4 := (hb1.cell (p := ⟨b, off + (m - 1) * 4 + 3, none⟩) (by first | (simp; done) | (simp; omega) | omega)).trans (show _ = some (Value.int .i64 (kz (m - 1))) by simp [go_sem, *]); have HB := Lib.hid hb1; clear hb1 HI e1 e2 e3 e4 i1 i2 i3 i4) | (go_at_call 71; refine (components_any _ _ _ _).mono ?_; rintro e w1 ⟨rfl, o1, o2, rfl⟩))
  have s1 : IntKind.i64.wrap (kt m - kt (m - 1)) = kt m - kt (m - 1) := IntWalk.i64_in _ (by omega)
  clear f1 f2 f3 f4 j1 j2 j3 j4
  have hwb := HB.out.size
  simp at hwb
  have hW : Below w.heap.size w w1 := (by (repeat (first | with_reducible exact Below.refl _ _ | with_reducible assumption | with_reducible refine Below.alloc ?_ (by first | (simp; done) | (simp; omega) | omega) _ | with_reducible refine Below.setCell ?_ (by first | (simp; done) | (simp; omega) | omega) _ | with_reducible refine Below.drew ?_ | with_reducible refine below_drewN ?_ _)) : Below w.heap.size w _).trans (HB.out.mono (by first | (simp; done) | (simp; omega) | omega))
  go_cut [9] (fun s9 wx => ∃ D : Nat, s9 = .pointer (some ⟨D, 0, none⟩) ∧ PI w (w.heap.size + 1 + 1) (w.heap.size + 1) w1.heap.size (w1.heap.size + 1 + 1 + 1) (w1.heap.size + 1 + 1 + 1 + 1) D time (kt m) (kt (m - 1)) (kx m) (ky m) (kz m) (kx (m - 1)) (ky (m - 1)) (kz (m - 1)) (kt m - kt (m - 1)) wx)
  case first =>
    go_region_held3 (fun w' => w'.cell? ⟨w1.heap.size, 0, none⟩ = some (.int .i64 (kt m)) ∧ w'.cell? ⟨w1.heap.size + 1 + 1 + 1 + 1, 0, none⟩ = some (.int .i64 (kt (m - 1))) ∧ w'.cell? ⟨w1.heap.size + 1 + 1 + 1 + 1, 1, none⟩ = some (.int .i64 (kx (m - 1))) ∧ w'.cell? ⟨w1.heap.size + 1 + 1 + 1 + 1, 2, none⟩ = some (.int .i64 (ky (m - 1))) ∧ w'.cell? ⟨w1.heap.size + 1 + 1 + 1 + 1, 3, none⟩ = some (.int .i64 (kz (m - 1)))) (simp [go_sem])
      (first | (go_at_call 71; (with_reducible refine (components_any (kx (m - 1)) (ky (m - 1)) (kz (m - 1)) _).mono ?_); rintro e w2 ⟨rfl, o3, o4, rfl⟩))
    all_goals
      go_wp2_with fail
      go_meet
      case rel =>
        have hws : w.heap.size ≤ w1.heap.size := by omega
        refine ⟨_, rfl, ⟨?_, ?_, ?_, ?_, ?_, ?_, ?_, ?_⟩, ⟨?_, ?_, ?_, ?_⟩, ⟨?_, ?_, ?_, ?_⟩, ⟨?_, ?_, ?_⟩, ⟨?_, ?_, ?_⟩, ⟨?_, ?_, ?_, ?_⟩, ⟨?_, ?_, ?_, ?_⟩⟩
        all_goals first | omega | (simp [go_sem, x0, x1, x2, x3, y0, y1, y2, y3, g2]; done) | (repeat (first | with_reducible exact Below.refl _ _ | with_reducible assumption | with_reducible refine Below.alloc ?_ (by first | (simp; done) | (simp; omega) | omega) _ | with_reducible refine Below.setCell ?_ (by first | (simp; done) | (simp; omega) | omega) _ | with_reducible refine Below.drew ?_ | with_reducible refine below_drewN ?_ _))
  case rest =>
    obtain ⟨D, rfl, hP⟩ := hcut
    have hd1 : w.heap.size ≤ w.heap.size + 1 + 1 := by omega
    clear x0 x1 x2 x3 y0 y1 y2 y3 g1 g2 s1 hW
    generalize w1.heap.size + 1 + 1 + 1 + 1 = BF at *
    generalize w1.heap.size + 1 + 1 + 1 = TO at *
    generalize w1.heap.size = AF at *
    generalize w.heap.size + 1 + 1 = R at *
    generalize w.heap.size + 1 = TM at *
    go_wp2_with fail
    go_loopw [44] (fun i wr => ∃ j : Int, 0 ≤ j ∧ j ≤ 3 ∧ i = .int .i64 j ∧ PI w R TM AF TO BF D time (kt m) (kt (m - 1)) (kx m) (ky m) (kz m) (sel 0 j (kx (m - 1)) (kx (m - 1) * (kt m - time) + kx m * (time - kt (m - 1)))) (sel 1 j (ky (m - 1)) (ky (m - 1) * (kt m - time) + ky m * (time - kt (m - 1)))) (sel 2 j (kz (m - 1)) (kz (m - 1) * (kt m - time) + kz m * (time - kt (m - 1)))) (kt m - kt (m - 1)) wr) (fun i _ => 3 - (intOf i).toNat)
    case atStart => exact ⟨0, by omega, by omega, rfl, hP⟩
    case round =>
      clear hP
      obtain ⟨j, hj0, hj, rfl, hP⟩ := hrel
      have s1 : IntKind.i64.wrap (kt m - time) = kt m - time := IntWalk.i64_in _ (by omega)
      have s2 : IntKind.i64.wrap (time - kt (m - 1)) = time - kt (m - 1) := IntWalk.i64_in _ (by omega)
      rcases (by omega : j = 0 ∨ j = 1 ∨ j = 2 ∨ j = 3) with rfl | rfl | rfl | rfl
      · have HP := Lib.hid hP
        have b1 := VX.out m hm
        have b2 := VX.out (m - 1) (by omega)
        have b3 := mul_bd b2.1 b2.2 (show 0 ≤ kt m - time by omega) (show kt m - time ≤ 10000 by omega) (by decide)
        have b4 := mul_bd b1.1 b1.2 (show 0 ≤ time - kt (m - 1) by omega) (show time - kt (m - 1) ≤ 10000 by omega) (by decide)
        have s3 : IntKind.i64.wrap (kx (m - 1) * (kt m - time)) = kx (m - 1) * (kt m - time) := IntWalk.i64_in _ (by omega)
        have s4 : IntKind.i64.wrap (kx m * (time - kt (m - 1))) = kx m * (time - kt (m - 1)) := IntWalk.i64_in _ (by omega)
        have s5 : IntKind.i64.wrap (kx (m - 1) * (kt m - time) + kx m * (time - kt (m - 1))) = kx (m - 1) * (kt m - time) + kx m * (time - kt (m - 1)) := IntWalk.i64_in _ (by omega)
        clear b1 b2 b3 b4
        simp only [sel, Int.reduceLT, if_false] at hP
        obtain ⟨⟨h1, h2, h3, h4, h5, h6, h7, h8⟩, ⟨r0, r1, r2, r3⟩, ⟨q0, q1, q2, q3⟩, ⟨c1, c2, c3⟩, ⟨t1, t2, t3⟩, ⟨d0, d1, d2, d3⟩, ⟨e0, e1, e2, e3⟩⟩ := hP
        go_wp2_with fail
        go_still_tail 21, (by kernel_rfl)
        go_wp2
        go_roundw
        case rel => exact ⟨1, by omega, by omega, rfl, HP.out.step0 _⟩
        case measure => simp [intOf]
      · have HP := Lib.hid hP
        have b1 := VY.out m hm
        have b2 := VY.out (m - 1) (by omega)
        have b3 := mul_bd b2.1 b2.2 (show 0 ≤ kt m - time by omega) (show kt m - time ≤ 10000 by omega) (by decide)
        have b4 := mul_bd b1.1 b1.2 (show 0 ≤ time - kt (m - 1) by omega) (show time - kt (m - 1) ≤ 10000 by omega) (by decide)
        have s3 : IntKind.i64.wrap (ky (m - 1) * (kt m - time)) = ky (m - 1) * (kt m - time) := IntWalk.i64_in _ (by omega)
        have s4 : IntKind.i64.wrap (ky m * (time - kt (m - 1))) = ky m * (time - kt (m - 1)) := IntWalk.i64_in _ (by omega)
        have s5 : IntKind.i64.wrap (ky (m - 1) * (kt m - time) + ky m * (time - kt (m - 1))) = ky (m - 1) * (kt m - time) + ky m * (time - kt (m - 1)) := IntWalk.i64_in _ (by omega)
        clear b1 b2 b3 b4
        simp only [sel, Int.reduceLT, if_true, if_false] at hP
        obtain ⟨⟨h1, h2, h3, h4, h5, h6, h7, h8⟩, ⟨r0, r1, r2, r3⟩, ⟨q0, q1, q2, q3⟩, ⟨c1, c2, c3⟩, ⟨t1, t2, t3⟩, ⟨d0, d1, d2, d3⟩, ⟨e0, e1, e2, e3⟩⟩ := hP
        go_wp2_with fail
        go_still_tail 21, (by kernel_rfl)
        go_wp2
        go_roundw
        case rel => exact ⟨2, by omega, by omega, rfl, HP.out.step1 _⟩
        case measure => simp [intOf]
      · have HP := Lib.hid hP
        have b1 := VZ.out m hm
        have b2 := VZ.out (m - 1) (by omega)
        have b3 := mul_bd b2.1 b2.2 (show 0 ≤ kt m - time by omega) (show kt m - time ≤ 10000 by omega) (by decide)
        have b4 := mul_bd b1.1 b1.2 (show 0 ≤ time - kt (m - 1) by omega) (show time - kt (m - 1) ≤ 10000 by omega) (by decide)
        have s3 : IntKind.i64.wrap (kz (m - 1) * (kt m - time)) = kz (m - 1) * (kt m - time) := IntWalk.i64_in _ (by omega)
        have s4 : IntKind.i64.wrap (kz m * (time - kt (m - 1))) = kz m * (time - kt (m - 1)) := IntWalk.i64_in _ (by omega)
        have s5 : IntKind.i64.wrap (kz (m - 1) * (kt m - time) + kz m * (time - kt (m - 1))) = kz (m - 1) * (kt m - time) + kz m * (time - kt (m - 1)) := IntWalk.i64_in _ (by omega)
        clear b1 b2 b3 b4
        simp only [sel, Int.reduceLT, if_true, if_false] at hP
        obtain ⟨⟨h1, h2, h3, h4, h5, h6, h7, h8⟩, ⟨r0, r1, r2, r3⟩, ⟨q0, q1, q2, q3⟩, ⟨c1, c2, c3⟩, ⟨t1, t2, t3⟩, ⟨d0, d1, d2, d3⟩, ⟨e0, e1, e2, e3⟩⟩ := hP
        go_wp2_with fail
        go_still_tail 21, (by kernel_rfl)
        go_wp2
        go_roundw
        case rel => exact ⟨3, by omega, by omega, rfl, HP.out.step2 _⟩
        case measure => simp [intOf]
      · have HP := Lib.hid hP
        simp only [sel, Int.reduceLT, if_true] at hP
        obtain ⟨⟨h1, h2, h3, h4, h5, h6, h7, h8⟩, ⟨r0, r1, r2, r3⟩, ⟨q0, q1, q2, q3⟩, ⟨c1, c2, c3⟩, ⟨t1, t2, t3⟩, ⟨d0, d1, d2, d3⟩, ⟨e0, e1, e2, e3⟩⟩ := hP
        go_wp2
        refine bodyPost_ret (v := .agg #[.int .i64 (kx (m - 1) * (kt m - time) + kx m * (time - kt (m - 1))), .int .i64 (ky (m - 1) * (kt m - time) + ky m * (time - kt (m - 1))), .int .i64 (kz (m - 1) * (kt m - time) + kz m * (time - kt (m - 1))), .int .i64 (kt m - kt (m - 1))]) (by simp [results, Tryz.results32, go_sem, r0, r1, r2, r3]) rfl ⟨rfl, ?_⟩
        (repeat (first | with_reducible exact Below.refl _ _ | with_reducible assumption | with_reducible refine Below.alloc ?_ (by first | (simp; done) | (simp; omega) | omega) _ | with_reducible refine Below.setCell ?_ (by first | (simp; done) | (simp; omega) | omega) _ | with_reducible refine Below.drew ?_ | with_reducible refine below_drewN ?_ _))
end Go.Proofs.YtjncjoaohonmjaaGreat
