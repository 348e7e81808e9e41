/- Helpers: what has surely arrived, what surely has not. -/
import Derived.Test.YtolondcbllkimaaL2
namespace Go.Proofs.Ytolondcbllkimaa
open Go.RowKit Go.Shelf Go.Sort
attribute [local go_sem] idx3_0 idx3_1 idx3_2 old1 fro1 old2 fro2 old3 fro3 old4 fro4 old5 fro5 old6 fro6 old7 fro7 old8 fro8 old9 fro9 old10 fro10 old11 fro11 old12 fro12
def arrB (A B : Trk) (s r : Int) : Bool := !decide ((r - s) * vn (A.p s) (B.p r) * ((r - s) * vn (A.p s) (B.p r)) < sqF A B s r)
def awayB (A B : Trk) (s r : Int) : Bool := decide ((r - s) * vn (A.p s) (B.p r) * ((r - s) * vn (A.p s) (B.p r)) < sqN A B s r)
theorem farthestOf (W : World) (A B : Trk) (s r : Int) (hA : ctErr A.k A.n A.d = 0 ∧ outside s A.k A.n = false) (hB : ctErr B.k B.n B.d = 0 ∧ outside r B.k B.n = false) :
    Calls Try.prog 107 #[.agg #[.int .i64 (vx (A.p s) (B.p r)), .int .i64 (vy (A.p s) (B.p r)), .int .i64 (vz (A.p s) (B.p r)), .int .i64 (vn (A.p s) (B.p r)), .int .i64 (vd A.d B.d (A.p s) (B.p r))]] W fun e w' => e = .returned (.agg #[.int .u64 (sqh (sqF A B s r)), .int .u64 (sql (sqF A B s r))]) ∧ Below W.heap.size W w' := by
  obtain ⟨n, x, y, z, d⟩ := v_bd (plc_ok hA.1 hA.2) (plc_ok hB.1 hB.2) (valid_of hA.1).2.2.2 (valid_of hB.1).2.2.2
  exact farthest_any W _ _ _ _ _ x.1 x.2 y.1 y.2 z.1 z.2 d.1 d.2
theorem nearestOf (W : World) (A B : Trk) (s r : Int) (hA : ctErr A.k A.n A.d = 0 ∧ outside s A.k A.n = false) (hB : ctErr B.k B.n B.d = 0 ∧ outside r B.k B.n = false) :
    Calls Try.prog 106 #[.agg #[.int .i64 (vx (A.p s) (B.p r)), .int .i64 (vy (A.p s) (B.p r)), .int .i64 (vz (A.p s) (B.p r)), .int .i64 (vn (A.p s) (B.p r)), .int .i64 (vd A.d B.d (A.p s) (B.p r))]] W fun e w' => e = .returned (.agg #[.int .u64 (sqh (sqN A B s r)), .int .u64 (sql (sqN A B s r))]) ∧ Below W.heap.size W w' := by
  obtain ⟨n, x, y, z, d⟩ := v_bd (plc_ok hA.1 hA.2) (plc_ok hB.1 hB.2) (valid_of hA.1).2.2.2 (valid_of hB.1).2.2.2
  exact nearest_any W _ _ _ _ _ x.1 x.2 y.1 y.2 z.1 z.2 d.1 d.2
theorem time_bd {A : Trk} {s : Int} (hA : ctErr A.k A.n A.d = 0 ∧ outside s A.k A.n = false) : 0 ≤ s ∧ s ≤ 1000000000000 := by
  obtain ⟨h0, h12, hk, _⟩ := valid_of hA.1
  have hi : wi s (A.k 0).t (A.k (A.n - 1)).t = true := by have := hA.2; unfold outside at this; simpa using this
  obtain ⟨h1, h2⟩ := wi_t.1 hi
  have k0 := (knotErr_ok (hk 0 (by omega))).1
  have k1 := (knotErr_ok (hk (A.n - 1) (by omega))).1
  omega
set_option maxRecDepth 100000 in
set_option maxHeartbeats 2000000 in
theorem surelyArrived_any (W : World) (A B : Trk) (s r : Int) (hA : VT W A s) (hB : VT W B r) (hsr : s ≤ r) (hr : r - s ≤ 20000000000) :
    Calls Try.prog 78 #[.agg #[.slice (some ⟨A.b, A.off, none⟩) A.n A.c, .int .i64 A.d], .agg #[.slice (some ⟨B.b, B.off, none⟩) B.n B.c, .int .i64 B.d], .int .i64 s, .int .i64 r] W fun e w' => e = .returned (.bool (arrB A B s r)) ∧ Below W.heap.size W w' := by
  have HV := Lib.hid (fun W1 (hb : Below W.heap.size W W1) => vectorBetween_e W1 A B s r (hA.below hb) (hB.below hb))
  have HF := fun W1 => Lib.hid (farthestOf W1 A B s r hA.2 hB.2)
  obtain ⟨nb, _⟩ := v_bd (plc_ok hA.2.1 hA.2.2) (plc_ok hB.2.1 hB.2.2) (valid_of hA.2.1).2.2.2 (valid_of hB.2.1).2.2.2
  have tA := time_bd hA.2
  have tB := time_bd hB.2
  have NB : Hid (1 ≤ vn (A.p s) (B.p r) ∧ vn (A.p s) (B.p r) ≤ 100000000) := nb
  clear nb hA hB
  unfold arrB
  generalize vx (A.p s) (B.p r) = x at *
  generalize vy (A.p s) (B.p r) = y at *
  generalize vz (A.p s) (B.p r) = z at *
  generalize vd A.d B.d (A.p s) (B.p r) = d at *
  generalize vn (A.p s) (B.p r) = n at *
  generalize sqF A B s r = F at *
  have s1 : IntKind.i64.wrap (r - s) = r - s := IntWalk.i64_in _ (by omega)
  have q1 : -20000000000 ≤ r - s := by omega
  go_enter Try.func78, Try.ntmps78
  go_wp2_with (go_at_call 66; go_must (with_reducible refine Calls.mono (HV.out _ ?_) ?_); (focus (repeat (first | with_reducible exact Below.refl _ _ | with_reducible assumption | with_reducible refine Below.alloc ?_ (by first | (simp; done) | (simp; omega) | omega) _ | with_reducible refine Below.setCell ?_ (by first | (simp; done) | (simp; omega) | omega) _ | with_reducible refine Below.drew ?_ | with_reducible refine below_drewN ?_ _))); rintro e w1 ⟨rfl, hb1⟩; go_must (have hB1 := (by (repeat (first | with_reducible exact Below.refl _ _ | with_reducible assumption | with_reducible refine Below.alloc ?_ (by first | (simp; done) | (simp; omega) | omega) _ | with_reducible refine Below.setCell ?_ (by first | (simp; done) | (simp; omega) | omega) _ | with_reducible refine Below.drew ?_ | with_reducible refine below_drewN ?_ _)) : Below W.heap.size W _).trans (hb1.mono (by first | (simp; done) | (simp; omega) | omega))); go_must (have hs1 := hB1.size); clear hb1)
  go_region_held3 (fun w' => w'.cell? ⟨w1.heap.size, 0, none⟩ = some (.int .i64 x) ∧ w'.cell? ⟨w1.heap.size, 1, none⟩ = some (.int .i64 y) ∧ w'.cell? ⟨w1.heap.size, 2, none⟩ = some (.int .i64 z) ∧ w'.cell? ⟨w1.heap.size, 3, none⟩ = some (.int .i64 n) ∧ w'.cell? ⟨w1.heap.size, 4, none⟩ = some (.int .i64 d)) (simp [go_sem, *])
    (first | (go_at_call 109; (with_reducible refine (squareOver_any _ x y z n d (r - s) NB.out ⟨q1, hr⟩).mono ?_); rintro e w2 ⟨rfl, o3, o4, o5, rfl⟩) | (go_at_call 107; (with_reducible refine Calls.mono (HF _).out ?_); rintro e w2 ⟨rfl, hb1⟩; go_must (have v0 := (hb1.cell (p := ⟨w1.heap.size, 0, none⟩) (by first | (simp; done) | (simp; omega) | omega)).trans (show _ = some (Value.int .i64 x) by simp [go_sem, *])); go_must (have v1 := (hb1.cell (p := ⟨w1.heap.size, 1, none⟩) (by first | (simp; done) | (simp; omega) | omega)).trans (show _ = some (Value.int .i64 y) by simp [go_sem, *])); go_must (have v2 := (hb1.cell (p := ⟨w1.heap.size, 2, none⟩) (by first | (simp; done) | (simp; omega) | omega)).trans (show _ = some (Value.int .i64 z) by simp [go_sem, *])); go_must (have v3 := (hb1.cell (p := ⟨w1.heap.size, 3, none⟩) (by first | (simp; done) | (simp; omega) | omega)).trans (show _ = some (Value.int .i64 n) by simp [go_sem, *])); go_must (have v4 := (hb1.cell (p := ⟨w1.heap.size, 4, none⟩) (by first | (simp; done) | (simp; omega) | omega)).trans (show _ = some (Value.int .i64 d) by simp [go_sem, *])); go_must (have hB2 := (by (repeat (first | with_reducible exact Below.refl _ _ | with_reducible assumption | with_reducible refine Below.alloc ?_ (by first | (simp; done) | (simp; omega) | omega) _ | with_reducible refine Below.setCell ?_ (by first | (simp; done) | (simp; omega) | omega) _ | with_reducible refine Below.drew ?_ | with_reducible refine below_drewN ?_ _)) : Below W.heap.size W _).trans (hb1.mono (by first | (simp; done) | (simp; omega) | omega))); go_must (have hs2 := hB2.size); clear hb1) | (go_at_call 85; (with_reducible refine (less_any _ F _).mono ?_); rintro e w3 ⟨rfl, q, o6, o7, rfl⟩))
  all_goals
    go_wp2
    go_ret
    exact ⟨rfl, by (repeat (first | with_reducible exact Below.refl _ _ | with_reducible assumption | with_reducible refine Below.alloc ?_ (by first | (simp; done) | (simp; omega) | omega) _ | with_reducible refine Below.setCell ?_ (by first | (simp; done) | (simp; omega) | omega) _ | with_reducible refine Below.drew ?_ | with_reducible refine below_drewN ?_ _))⟩
set_option maxRecDepth 100000 in
set_option maxHeartbeats 2000000 in
theorem surelyNotArrived_any (W : World) (A B : Trk) (s r : Int) (hA : VT W A s) (hB : VT W B r) (hsr : s ≤ r) (hr : r - s ≤ 20000000000) :
    Calls Try.prog 80 #[.agg #[.slice (some ⟨A.b, A.off, none⟩) A.n A.c, .int .i64 A.d], .agg #[.slice (some ⟨B.b, B.off, none⟩) B.n B.c, .int .i64 B.d], .int .i64 s, .int .i64 r] W fun e w' => e = .returned (.bool (awayB A B s r)) ∧ Below W.heap.size W w' := by
  have HV := Lib.hid (fun W1 (hb : Below W.heap.size W W1) => vectorBetween_e W1 A B s r (hA.below hb) (hB.below hb))
  have HF := fun W1 => Lib.hid (nearestOf W1 A B s r hA.2 hB.2)
  obtain ⟨nb, _⟩ := v_bd (plc_ok hA.2.1 hA.2.2) (plc_ok hB.2.1 hB.2.2) (valid_of hA.2.1).2.2.2 (valid_of hB.2.1).2.2.2
  have tA := time_bd hA.2
  have tB := time_bd hB.2
  have NB : Hid (1 ≤ vn (A.p s) (B.p r) ∧ vn (A.p s) (B.p r) ≤ 100000000) := nb
  clear nb hA hB
  unfold awayB
  generalize vx (A.p s) (B.p r) = x at *
  generalize vy (A.p s) (B.p r) = y at *
  generalize vz (A.p s) (B.p r) = z at *
  generalize vd A.d B.d (A.p s) (B.p r) = d at *
  generalize vn (A.p s) (B.p r) = n at *
  generalize sqN A B s r = F at *
  have s1 : IntKind.i64.wrap (r - s) = r - s := IntWalk.i64_in _ (by omega)
  have q1 : -20000000000 ≤ r - s := by omega
  go_enter Try.func80, Try.ntmps80
  go_wp2_with (go_at_call 66; go_must (with_reducible refine Calls.mono (HV.out _ ?_) ?_); (focus (repeat (first | with_reducible exact Below.refl _ _ | with_reducible assumption | with_reducible refine Below.alloc ?_ (by first | (simp; done) | (simp; omega) | omega) _ | with_reducible refine Below.setCell ?_ (by first | (simp; done) | (simp; omega) | omega) _ | with_reducible refine Below.drew ?_ | with_reducible refine below_drewN ?_ _))); rintro e w1 ⟨rfl, hb1⟩; go_must (have hB1 := (by (repeat (first | with_reducible exact Below.refl _ _ | with_reducible assumption | with_reducible refine Below.alloc ?_ (by first | (simp; done) | (simp; omega) | omega) _ | with_reducible refine Below.setCell ?_ (by first | (simp; done) | (simp; omega) | omega) _ | with_reducible refine Below.drew ?_ | with_reducible refine below_drewN ?_ _)) : Below W.heap.size W _).trans (hb1.mono (by first | (simp; done) | (simp; omega) | omega))); go_must (have hs1 := hB1.size); clear hb1)
  go_region_held3 (fun w' => w'.cell? ⟨w1.heap.size, 0, none⟩ = some (.int .i64 x) ∧ w'.cell? ⟨w1.heap.size, 1, none⟩ = some (.int .i64 y) ∧ w'.cell? ⟨w1.heap.size, 2, none⟩ = some (.int .i64 z) ∧ w'.cell? ⟨w1.heap.size, 3, none⟩ = some (.int .i64 n) ∧ w'.cell? ⟨w1.heap.size, 4, none⟩ = some (.int .i64 d)) (simp [go_sem, *])
    (first | (go_at_call 109; (with_reducible refine (squareOver_any _ x y z n d (r - s) NB.out ⟨q1, hr⟩).mono ?_); rintro e w2 ⟨rfl, o3, o4, o5, rfl⟩) | (go_at_call 106; (with_reducible refine Calls.mono (HF _).out ?_); rintro e w2 ⟨rfl, hb1⟩; go_must (have v0 := (hb1.cell (p := ⟨w1.heap.size, 0, none⟩) (by first | (simp; done) | (simp; omega) | omega)).trans (show _ = some (Value.int .i64 x) by simp [go_sem, *])); go_must (have v1 := (hb1.cell (p := ⟨w1.heap.size, 1, none⟩) (by first | (simp; done) | (simp; omega) | omega)).trans (show _ = some (Value.int .i64 y) by simp [go_sem, *])); go_must (have v2 := (hb1.cell (p := ⟨w1.heap.size, 2, none⟩) (by first | (simp; done) | (simp; omega) | omega)).trans (show _ = some (Value.int .i64 z) by simp [go_sem, *])); go_must (have v3 := (hb1.cell (p := ⟨w1.heap.size, 3, none⟩) (by first | (simp; done) | (simp; omega) | omega)).trans (show _ = some (Value.int .i64 n) by simp [go_sem, *])); go_must (have v4 := (hb1.cell (p := ⟨w1.heap.size, 4, none⟩) (by first | (simp; done) | (simp; omega) | omega)).trans (show _ = some (Value.int .i64 d) by simp [go_sem, *])); go_must (have hB2 := (by (repeat (first | with_reducible exact Below.refl _ _ | with_reducible assumption | with_reducible refine Below.alloc ?_ (by first | (simp; done) | (simp; omega) | omega) _ | with_reducible refine Below.setCell ?_ (by first | (simp; done) | (simp; omega) | omega) _ | with_reducible refine Below.drew ?_ | with_reducible refine below_drewN ?_ _)) : Below W.heap.size W _).trans (hb1.mono (by first | (simp; done) | (simp; omega) | omega))); go_must (have hs2 := hB2.size); clear hb1) | (go_at_call 85; (with_reducible refine (less_any _ F _).mono ?_); rintro e w3 ⟨rfl, q, o6, o7, rfl⟩))
  all_goals
    go_wp2
    go_ret
    exact ⟨rfl, by (repeat (first | with_reducible exact Below.refl _ _ | with_reducible assumption | with_reducible refine Below.alloc ?_ (by first | (simp; done) | (simp; omega) | omega) _ | with_reducible refine Below.setCell ?_ (by first | (simp; done) | (simp; omega) | omega) _ | with_reducible refine Below.drew ?_ | with_reducible refine below_drewN ?_ _))⟩
end Go.Proofs.Ytolondcbllkimaa
